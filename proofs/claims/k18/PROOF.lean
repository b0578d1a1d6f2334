import PyProof.Rows.All
import Wide.All
import OpenK.AllK
import Wide.FinOn
import PyProof.EqAt
import PyProof.EqKinds
import PyProof.TupleCall
import HandS.ForMost
import HandS.ForExc
import HandS.ExcInit
import HandS.Defaults
import HandS.MakeKwOnly
import HandS.IsInst
import HandS.ExcField
import HandS.ExcIs
import HandS.ExcOwn
import HandS.ExcValue
import HandS.Dict
import HandS.Text
import HandS.StrMore
import HandS.SetFor
import HandS.Flow
import HandS.Evl
import HandS.TryOnly
import HandS.DictComp
import HandS.Iter
import HandS.Steps
import HandS.TryMany
import PyProof.ListStr
import HandS.Lambda
import HandS.OwnEq
import PyProof.InstNe
import PyProof.MeetsStr3
import PyProof.StrLawsLast
import PyProof.Rows.StrNews2
import HandS.CallRecv
import HandS.TupAny
import HandS.Deep
import HandS.Walk
import PyProof.Rows.ChunkEnd
import PyProof.Rows.ChunkLeaf
import PyProof.NeData
import KE.SortKeyHeap
import HandS.FStr
import HandS.Style
import HandS.EndTab
import HandS.HeadWalk
import PySem.Challenge.RW_allinputs_k18_texts_of_areas
set_option Elab.async false
set_option linter.all false
set_option maxRecDepth 100000
set_option maxHeartbeats 4000000
/-! Own errors as values, also made by keywords. -/
namespace PySem
namespace EV
open PySem PySem.W PySem.Calls PyProof.Rows PySem.HandSPX
section
variable {M : Model} {A : Around} {E : Value → Shared → Prop} {hp : Heap} {gs : Array GenState} {dr : Drawn} {tk : Nat} {osx : OsState}
variable {cn cq : Str} {C Nn : Addr} {cb cm cmB : List Value} {hdt : Bool} {sln : List Str} {sbc : List Value} {abst : Bool} {colo : Option Bool} {ddo : Option Addr} {j0 j1 j2 j3 j5 : Option Value} {Bn nId iId : String}
theorem chk_new (F : ExcBaseFacts Bn nId iId cmB) (hT : ∀ Y : String, cm.contains (.type Y) = cmB.contains (.type Y)) {as : List Value} {kw : List (Str × Value)} {Q : Unit → Shared → Prop}
    (hC : hp.get? C = some (excClassObj cn cq C Nn cb cm hdt sln sbc abst colo ddo j0 j1 j2 j3 j5 nId)) (hq : Q () ⟨hp, gs, dr, tk, osx⟩) : wpAny M A (checkBuiltinCall nId ⟨.ref C :: as, kw⟩) Q E ⟨hp, gs, dr, tk, osx⟩ := by
  have hin : (Value.ref C :: cm).contains (.type Bn) = true := by rw [List.contains_cons, hT, F.hasB, Bool.or_true]
  have hst := F.noStar
  simp only [checkBuiltinCall, F.newKind, F.newSplit, F.newRow]
  repeat (first | refine wpAny_loadPart_at hC ?_ | (refine wpAny_isSubtype_exc hC ?_; rw [hin]) | refine wpAny_staticBase_exc hC ?_ | refine wpAny_madeBy_exc hC ?_ | simp only [bne_self_eq_false, Bool.false_eq_true, if_false] | wp_step)
  exact hq
end
section
variable {prog : Program} {w : World} {A : Around} {E : Value → Shared → Prop} {R : Result → Shared → Prop} {hp : Heap} {gs : Array GenState} {dr : Drawn} {tk : Nat} {osx : OsState}
variable {cn cq : Str} {C Nn : Addr} {cb cm cmB : List Value} {hdt : Bool} {sln : List Str} {sbc : List Value} {abst : Bool} {colo : Option Bool} {ddo : Option Addr} {j0 j1 j2 j3 j5 : Option Value} {Bn nId iId : String}
theorem new_kw (F : ExcBaseFacts Bn nId iId cmB) (hT : ∀ Y : String, cm.contains (.type Y) = cmB.contains (.type Y)) {as : List Value} {kw : List (Str × Value)}
    (hC : hp.get? C = some (excClassObj cn cq C Nn cb cm hdt sln sbc abst colo ddo j0 j1 j2 j3 j5 nId))
    (hq : R (.ok (.ret (.ref (hp.objs.size + 1)))) ⟨(hp.push (PySem.W.kdv_tup as)).push (excO C hp.objs.size), gs, dr, tk, osx⟩) (hl : as.length ≤ sizeLine) :
    codeAny (model prog w) A (.builtin nId ⟨.ref C :: as, kw⟩) R ⟨hp, gs, dr, tk, osx⟩ := by
  have hen := F.ends
  have hin : (Value.ref C :: cm).contains (.type Bn) = true := by rw [List.contains_cons, hT, F.hasB, Bool.or_true]
  have hna : (Value.ref C :: cm).contains (.type "AttributeError") = false := by rw [List.contains_cons, hT, F.noAttr]; rfl
  have hnn : (Value.ref C :: cm).contains (.type "NameError") = false := by rw [List.contains_cons, hT, F.noName]; rfl
  refine codeAny_builtinAt F.entry ?_
  unfold Builtin.«BaseException.__new__»
  refine wpAt_bind ?_
  show wpAt _ _ _ (stack >>= _) _ _ _
  refine wpAt_bind (wpAt_stack fun p lower => wpAt_of_wpAny ?_)
  wp_walk
  refine wpAt_of_wpAny ?_
  rw [F.owner]
  repeat (first | with_reducible refine wpAny_madeHere_exc F.canon hC ?_ | with_reducible refine wpAny_loadPart_at hC ?_ | (with_reducible refine wpAny_isSubtype_exc hC ?_; first | rw [hin] | rw [hna] | rw [hnn]) | wp_step)
  show R _ _
  rw [Heap.size_push]
  exact hq
theorem tcall_kw (F : ExcBaseFacts Bn nId iId cmB) (hT : ∀ Y : String, cm.contains (.type Y) = cmB.contains (.type Y)) {as : List Value} {kw : List (Str × Value)} {fI : Addr} {Q : Fin → Shared → Prop}
    (hC : hp.get? C = some (excClassObj cn cq C Nn cb cm hdt sln sbc abst colo ddo j0 j1 j2 j3 j5 nId))
    (hi : W.Looks (model prog w) hp (typeLookup (.ref C) "__init__") (some (.ref fI))) (hb : ∀ me, W.Looks (model prog w) hp (bindSpecial (.ref fI) me) (.ref fI, [me])) (hl : as.length ≤ sizeLine)
    (hq : codeAny (model prog w) A (.call (.ref fI) ⟨.ref (hp.objs.size + 1) :: as, kw⟩)
      (fun r s' => match r with | .ok (.ret v) => v = .none ∧ Q (.done (.ret (.ref (hp.objs.size + 1)))) s' | .ok _ => False | .error e => E e s')
      ⟨(hp.push (PySem.W.kdv_tup as)).push (excO C hp.objs.size), gs, dr, tk, osx⟩) :
    wpAny (model prog w) A (Builtin.«type.__call__» ⟨.ref C :: as, kw⟩) Q E ⟨hp, gs, dr, tk, osx⟩ := by
  repeat (first | with_reducible refine wpAny_loadPart_at hC ?_ | with_reducible refine wpAny_madeBy_exc hC ?_ | wp_step)
  refine codeAny_call_builtin_code (Code.quiet_builtin _ F.quiet) (chk_new F hT hC ?_)
  refine new_kw F hT hC ?_ hl
  show wpAny _ _ _ _ _ _
  have kp : ∀ b o, hp.get? b = some o → ((hp.push (PySem.W.kdv_tup as)).push (excO C hp.objs.size)).get? b = some o := fun b o e => Heap.get?_push_of_some _ (Heap.get?_push_of_some _ e)
  have hC1 := kp _ _ hC
  have hgt : ((hp.push (PySem.W.kdv_tup as)).push (excO C hp.objs.size)).get? (hp.objs.size + 1) = some (excO C hp.objs.size) := by heap_get
  have hcc : (Value.ref C :: cm).contains (.ref C) = true := by simp
  have li := hi.keeps kp
  have lb := (hb (.ref (hp.objs.size + 1))).keeps kp
  unfold isInstance
  repeat (first | with_reducible refine wpAny_loadPart_at hgt ?_ | (with_reducible refine wpAny_isSubtype_exc hC1 ?_; rw [hcc]) | wp_step)
  show wpAny _ _ (typeLookup (.ref C) _) _ _ _
  refine li.at ?_
  refine wpAny_holding (wpAny_bind (lb.at ?_))
  refine wpAny_bind (wpAny_call (codeAny_mono hq fun r s' zz => ?_))
  rcases r with e | (v | _ | _ | _) <;> first | exact zz | exact zz.elim | skip
  obtain ⟨rfl, zz⟩ := zz
  first
    | exact wpAny_pure (wpAny_pure zz)
    | (wp_walk; exact zz)
theorem call_kw (F : ExcBaseFacts Bn nId iId cmB) (hT : ∀ Y : String, cm.contains (.type Y) = cmB.contains (.type Y)) {as : List Value} {kw : List (Str × Value)} {fI : Addr}
    (hC : hp.get? C = some (excClassObj cn cq C Nn cb cm hdt sln sbc abst colo ddo j0 j1 j2 j3 j5 nId))
    (hi : W.Looks (model prog w) hp (typeLookup (.ref C) "__init__") (some (.ref fI))) (hb : ∀ me, W.Looks (model prog w) hp (bindSpecial (.ref fI) me) (.ref fI, [me])) (hl : as.length ≤ sizeLine)
    (hq : codeAny (model prog w) (A.under (.builtin "type.__call__" ⟨.ref C :: as, kw⟩)) (.call (.ref fI) ⟨.ref (hp.objs.size + 1) :: as, kw⟩) (W.InitBack (hp.objs.size + 1) R)
      ⟨(hp.push (PySem.W.kdv_tup as)).push (excO C hp.objs.size), gs, dr, tk, osx⟩) :
    codeAny (model prog w) A (.call (.ref C) ⟨as, kw⟩) R ⟨hp, gs, dr, tk, osx⟩ := by
  have tl := tc_lookup
  have tb := tc_bind (.ref C)
  have hTy : (⟨hp, gs, dr, tk, osx⟩ : Shared).TypeIs (.ref C) "type" := ⟨_, hC, rfl⟩
  refine codeAny_of_tree ?_
  show wpAny _ _ (callAny (.ref C) _) _ _ _
  repeat (any_goals (first | assumption | with_reducible refine wpAny_loadPart_at hC ?_ | wp_step))
  refine ⟨rfl, ?_⟩
  refine codeAny_call_builtin_at (Code.quiet_builtin _ (by decide +kernel)) entry_typeCall (wpAny_check_type_call_sub hC (tcall_kw F hT hC hi hb hl ?_))
  refine codeAny_mono hq fun r s' zz => ?_
  rcases r with e | (v | _ | _ | _) <;> exact zz
end
end EV
end PySem

set_option Elab.async false
set_option linter.all false
set_option maxRecDepth 100000
set_option maxHeartbeats 4000000
/-! Rules for own errors that stay as values. -/
namespace EV2
open PySem PySem.Spec PyProof.Rows L2
/-- C(e, .., k = v, ..), C an own error with its own __init__: the error stays known -/
def tMkV (C : Addr) (n m : Nat) (sp : Sp) (gV : List V → List V → List V) (t tk : TA) : TE := fun σ H Q => t σ H fun vs H1 => tk σ H1 fun zs H2 => vs.length = n ∧ zs.length = m ∧ n ≤ 1000 ∧
  ∀ a, H2 a = none → sp (gV (.ref a :: vs) zs) (upd H2 a (exo a C none)) (fun v H3 => v = .non ∧ Q (.ref a) H3) fun _ _ _ => False
structure ErrC (K : PySem.W.Frag) (C fI : Addr) : Prop where
  ox : OexC K C
  ini : PySem.W.findIn K (.ref C) "__init__" = some (some (.ref fI))
  ty : PySem.W.typeIn K (.ref fI) = some (.type "function")
section
variable {X : Cx} {CX : CXT} {k n : Nat} {fI C : Addr} {fd : FuncData} {ps ks : List Str} {sp : Sp} {x : Str} {p pos : Pos} {e : Expr} {es : List Expr} {kws : List Keyword} {t tk : TA} {g : List Value → List Value → List Value} {gV : List V → List V → List V}
theorem run_mkV {pins : List (Addr × Obj)} {σ : L2.St} {H : Hp} {s : Shared} {Q : VK} {us ws : List Value} {vs zs : List V} (T : ErrC X.K C fI) (F : FnOk X.prog X.w X.K X.mg X.base CX k fI fd ps sp) (hr : Room (k + 1) X.A) (hb : KBn X.K fd ps (n + 1) ks g gV)
    (hx : Passes CX X fun _ _ _ => False) (I : Inv X pins σ H s) (r : Vals vs us) (rz : Vals zs ws) (l1 : vs.length = n) (l2 : zs.length = ks.length) (hn : n ≤ 1000)
    (h : ∀ a, H a = none → sp (gV (.ref a :: vs) zs) (upd H a (exo a C none)) (fun v H3 => v = .non ∧ Q (.ref a) H3) fun _ _ _ => False) :
    wpAny (model X.prog X.w) X.A (call (.ref C) us (ks.zip ws)) (EP X pins σ Q) X.xe s := by
  obtain ⟨nm, q, N, bs, bm, sn, sub, ab, col, dd, k0, k1, k2, k3, k5, hC, hbm⟩ := T.ox.cls
  obtain ⟨hp, gg, dr, tt, os⟩ := s
  have hsz : hp.objs.size ≤ hp.objs.size + 1 := Nat.le_succ _
  have nn : H (hp.objs.size + 1) = none := I.hok.fresh hsz
  have hq := h (hp.objs.size + 1) nn
  have kk : ∀ b o, hp.get? b = some o → ((hp.push (PySem.W.kdv_tup us)).push (PySem.HandSPX.excO C hp.objs.size)).get? b = some o := fun b o e => Heap.get?_push_of_some _ (Heap.get?_push_of_some _ e)
  have gt : ((hp.push (PySem.W.kdv_tup us)).push (PySem.HandSPX.excO C hp.objs.size)).get? (hp.objs.size + 1) = some (PySem.HandSPX.excO C hp.objs.size) := by heap_get
  have J : Inv X pins σ (upd H (hp.objs.size + 1) (exo (hp.objs.size + 1) C none)) ⟨(hp.push (PySem.W.kdv_tup us)).push (PySem.HandSPX.excO C hp.objs.size), gg, dr, tt, os⟩ :=
    I.laid (t' := tt) (a := hp.objs.size + 1) (o := exo (hp.objs.size + 1) C none) (h' := (hp.push (PySem.W.kdv_tup us)).push (PySem.HandSPX.excO C hp.objs.size)) kk hsz (exo_ok gt)
  have r1 : Vals (V.ref (hp.objs.size + 1) :: vs) (Value.ref (hp.objs.size + 1) :: us) := .cons rfl r
  have r2 := hb.rel r1 rz
  have n1 : (Value.ref (hp.objs.size + 1) :: us).length = n + 1 := by rw [List.length_cons, ← r.length, l1]
  have lu : us.length ≤ sizeLine := by
    rw [← r.length, l1, sizeLine_eq]
    omega
  refine wpAny_call (PySem.EV.call_kw PySem.F.excBase_ValueError (fun Y => PySem.HandSPX.refsVE_contains Y bm hbm) (I.kIn _ _ hC) (PySem.W.looks_findIn I.kIn T.ini) (fun me => PySem.W.bind_fn I.kIn me T.ty) lu
    (codeAny_mono (FnOk.run F _ X.stack _ _ ⟨Value.ref (hp.objs.size + 1) :: us, ks.zip ws⟩ (g (Value.ref (hp.objs.size + 1) :: us) ws) _ _ (fun _ _ _ => False) (hr.make C us (ks.zip ws)) (J.env0.make C us (ks.zip ws)) (hb.to _ (Value.ref (hp.objs.size + 1) :: us) ws J.kIn n1 (rz.length.symm.trans l2)) r2 hq) fun r s' hq' => ?_))
  cases r with
  | error e => exact hx pins σ _ _ e s' J hq'
  | ok fl =>
    cases fl with
    | ret u =>
      obtain ⟨v, H', I3, rv, ev, q3⟩ := J.after hq'
      subst ev
      exact ⟨rv, ⟨V.ref (hp.objs.size + 1), H', I3, rfl, q3⟩⟩
    | next => exact False.elim hq'
    | brk => exact False.elim hq'
    | cont => exact False.elim hq'
/-- C(e, ..) -/
theorem pe_mkV (T : ErrC X.K C fI) (F : FnOk X.prog X.w X.K X.mg X.base CX k fI fd ps sp) (hr : Room (k + 1) X.A) (hg : Gl X x) (hm : X.mg x = some (.ref C)) (hb : KBn X.K fd ps (n + 1) [] g gV) (hx : Passes CX X fun _ _ _ => False) (ha : PA X (e :: es) t)
    (hdb : (x == ("__debug__" : Str)) = false := by decide) (he : starEach (e :: es) X.env = (false, eval e X.env) :: starEach es X.env := by rfl) (hpl : (backTo pos (starEach es X.env)).any (·.1) = false := by rfl) :
    PE X (.Call (.Name x p) (e :: es) [] pos) (tMkV C n 0 sp gV t tNil) := by
  refine ⟨fun pins s σ H Q I h => ?_⟩
  refine wpAny_Call_Name_kw (ld_glob I hg hm ?_ hdb)
  refine PySem.W.callWith_K (h₀ := X.base) I.ok.mod.kin T.ox.kC (thn (ha.run pos pins s σ H _ I h) fun us s1 ⟨vs, H1, I1, r, l1, _, hn, q⟩ => ⟨I1.kIn, ?_⟩) he hpl
  exact run_mkV (ks := []) (ws := []) (zs := []) T F hr hb hx I1 r .nil l1 rfl hn q
/-- C(k = v, ..) -/
theorem pe_mkVK0 (T : ErrC X.K C fI) (F : FnOk X.prog X.w X.K X.mg X.base CX k fI fd ps sp) (hr : Room (k + 1) X.A) (hg : Gl X x) (hm : X.mg x = some (.ref C)) (hb : KBn X.K fd ps 1 ks g gV) (hx : Passes CX X fun _ _ _ => False) (hkw : PK X kws tk)
    (hall : (backToKw pos (keywordEach kws X.env)).all (·.1.isSome) = true := by rfl) (hks : (backToKw pos (keywordEach kws X.env)).filterMap (·.1) = ks := by rfl) (hdb : (x == ("__debug__" : Str)) = false := by decide)
    (hpl : ((backTo pos (starEach [] X.env)).any (·.1) || (backToKw pos (keywordEach kws X.env)).any (·.1.isNone)) = false := by rfl) :
    PE X (.Call (.Name x p) [] kws pos) (tMkV C 0 ks.length sp gV tNil tk) := by
  refine ⟨fun pins s σ H Q I h => ?_⟩
  refine wpAny_Call_Name_kw (ld_glob I hg hm ?_ hdb)
  refine PySem.W.callWith_KW0 (h₀ := X.base) I.ok.mod.kin T.ox.kC hall ?_ hpl
  refine thn (hkw.run pos pins s σ H _ I h) fun ws s2 ⟨zs, H2, I2, rz, l1, l2, hn, q2⟩ => ⟨I2.kIn, ?_⟩
  rw [hks]
  exact run_mkV (us := []) (vs := []) T F hr hb hx I2 .nil rz rfl l2 hn q2
/-- C(e, .., k = v, ..) -/
theorem pe_mkVK (T : ErrC X.K C fI) (F : FnOk X.prog X.w X.K X.mg X.base CX k fI fd ps sp) (hr : Room (k + 1) X.A) (hg : Gl X x) (hm : X.mg x = some (.ref C)) (hb : KBn X.K fd ps (n + 1) ks g gV) (hx : Passes CX X fun _ _ _ => False) (ha : PA X (e :: es) t) (hkw : PK X kws tk)
    (hall : (backToKw pos (keywordEach kws X.env)).all (·.1.isSome) = true := by rfl) (hks : (backToKw pos (keywordEach kws X.env)).filterMap (·.1) = ks := by rfl) (hdb : (x == ("__debug__" : Str)) = false := by decide)
    (he : starEach (e :: es) X.env = (false, eval e X.env) :: starEach es X.env := by rfl) (hpl : ((backTo pos (starEach (e :: es) X.env)).any (·.1) || (backToKw pos (keywordEach kws X.env)).any (·.1.isNone)) = false := by rfl) :
    PE X (.Call (.Name x p) (e :: es) kws pos) (tMkV C n ks.length sp gV t tk) := by
  refine ⟨fun pins s σ H Q I h => ?_⟩
  refine wpAny_Call_Name_kw (ld_glob I hg hm ?_ hdb)
  refine PySem.W.callWith_KW (h₀ := X.base) I.ok.mod.kin T.ox.kC hall (thn (ha.run pos pins s σ H _ I h) fun us s1 ⟨vs, H1, I1, r, q⟩ => ?_) hpl he
  refine thn (hkw.run pos pins s1 σ H1 _ I1 q) fun ws s2 ⟨zs, H2, I2, rz, l1, l2, hn, q2⟩ => ⟨I2.kIn, ?_⟩
  rw [hks]
  exact run_mkV T F hr hb hx I2 r rz l1 l2 hn q2
end
end EV2

set_option Elab.async false
set_option linter.all false
set_option maxRecDepth 100000
set_option maxHeartbeats 4000000
/-! Fields and kinds of own errors that stay as values. -/
namespace PySem.EV
open PySem PySem.W PySem.Spec PySem.Calls PyProof.Rows
section
variable {prog : Program} {w : World} {A : Around} {E : Value → Shared → Prop} {s : Shared} {K : Frag} {x D : Addr} {ox : Obj} {od : Option Obj}
theorem fo_data {C : Addr} {name : Str} {a g : Value} (hc : (clsIn K C).isSome = true) (ha : findIn K (.ref C) name = some (some a)) (hg : specialIn K a "__get__" = some (some g)) (ht : takesIn K a = some true) : findObj K C od name = some (.bind g a) := by
  obtain ⟨cd, hc⟩ := Option.isSome_iff_exists.mp hc
  unfold findObj
  rw [hc, Option.bind_some, ha, Option.bind_some]
  simp [hg, ht]
/-- x.__class__, x an error with or without a dict of its own -/
theorem cls_get {Q : Option Value → Shared → Prop} (C : L2.ExcC K D) (X : K.In s.heap) (I : InstAt s.heap x ox D od) (h : Q (some (.ref D)) { s with toks := s.toks + 1 }) : wpAny (model prog w) A (getAttr? (.ref x) "__class__") Q E s := by
  have hf : findObj K D od "__class__" = some (.bind (.builtin "getset_descriptor.__get__") (.builtin "object.__class__")) := fo_data (by obtain ⟨cd, hc, _⟩ := any_some C.hd; rw [hc]; rfl) C.ha C.hn C.ht
  obtain ⟨hp, g, d, t, os⟩ := s
  have t0 := I.type (M := model prog w)
  have t1 := looks_findIn (M := model prog w) X C.hg
  have t2 := looks_findIn (M := model prog w) X C.hk
  have t3 := looks_find (M := model prog w) X I hf
  have sb : Looks (model prog w) hp (isInstance (.ref x) (.type "BaseException")) true := t0.andThen (looks_subIn X C.hs)
  have z0 : (false && onTheHeap (Value.builtin "BaseException.__getattribute__")) = false := rfl
  have z2 : (Value.builtin "BaseException.__getattribute__" == Value.builtin "object.__getattribute__") = false := by decide +kernel
  have z1 : (onTheHeap (Value.ref D) && Value.builtin "BaseException.__getattribute__" == Value.builtin "object.__getattribute__") = false := by rw [z2]; rfl
  unfold getAttr? getAttrBy? getAttrBy
  refine wpAny_bind (wpAny_mkText (wpAny_bind (wpAny_attempt (wpAny_holding (wpAny_bind (t0.at (wpAny_bind (t1.at ?_))))))))
  show wpAny _ _ (if (onTheHeap (Value.ref D) && Value.builtin "BaseException.__getattribute__" == Value.builtin "object.__getattribute__") = true then _ else _) _ _ _
  rw [z1, if_neg Bool.false_ne_true]
  unfold getAttrByItsOwn hookBefore
  refine wpAny_bind ?_
  rw [if_pos (show onTheHeap (Value.ref D) = true from rfl)]
  refine t2.at ?_
  refine wpAny_bind (wpAny_attempt (wpAny_holding ?_))
  unfold callGetattribute
  rw [z0, if_neg Bool.false_ne_true]
  unfold boundAndCalled
  rw [PySem.F.excAttr_ValueError.ga.bind (.ref x)]
  refine wpAny_bind (wpAny_pure ?_)
  show wpAny _ _ (call (.builtin "BaseException.__getattribute__") [.ref x, .str "__class__" t]) _ _ _
  refine wpAny_call (codeAny_call_builtin PySem.F.excAttr_ValueError.ga.plain PySem.F.entry_bexc_ga ?_)
  refine @check_slot (model prog w) _ _ ⟨hp, g, d, t + 1, os⟩ "BaseException.__getattribute__" "BaseException" "__getattribute__" (.ref x) [.str "__class__" t] [] _ (by decide +kernel) (by decide +kernel) sb (PySem.F.args_bexc_ga (.ref x) (.str "__class__" t)) ?_
  unfold Builtin.«object.__getattribute__»
  refine wpAny_bind (wpAny_of_eq (a := ((Value.ref x : Value), [Value.str "__class__" t])) (by first | rfl | (simp only [slotArgs]; rfl)) ?_)
  refine wpAny_bind (wpAny_pure (wpAny_bind (t0.at (wpAny_bind (t3.at ?_)))))
  show wpAny _ _ (holding [Value.builtin "object.__class__"] (call (.builtin "getset_descriptor.__get__") [.builtin "object.__class__", .ref x, .ref D]) >>= ret) _ _ _
  refine wpAny_bind (wpAny_holding (wpAny_call (class_get (s := ⟨hp, g, d, t + 1, os⟩) (ox := ox) (od := od) X I C.hm ?_)))
  refine wpAny_pure ?_
  show wpAny _ _ (handedOut (.ref D)) _ _ _
  rw [handedOut_of (v := .ref D) rfl]
  first
    | exact wpAny_pure (wpAny_pure h)
    | exact wpAny_pure h
    | exact wpAny_pure (wpAny_bind (wpAny_pure (wpAny_pure h)))
theorem kitx_err (C : L2.ExcC K D) : KitX K (.ref x) (.ref D) (fun h => InstAt h x ox D od) where
  ty := fun _ _ _ I => I.type
  it := fun _ _ X _ => by
    obtain ⟨cdD, hcD, _⟩ := any_some C.hd
    unfold clsIn at hcD
    split at hcD
    · rename_i c' d' cd' sl' ho
      intro A' Q' E' s' k q
      unfold isType loadHead
      exact wpAny_bind (wpAny_loadPart (k _ _ (X _ _ ho)) (wpAny_pure q))
    · cases hcD
  ne := fun h tp dd its n sl X htp => by
    obtain ⟨cdD, hcD, _⟩ := any_some C.hd
    refine Bool.eq_false_iff.mpr fun q => ?_
    have e : D = tp := Value.ref.inj (beq_iff_eq.mp q)
    subst e
    unfold clsIn at hcD
    split at hcD
    · rename_i c' d' cd' sl' ho
      have z := (X _ _ ho).symm.trans htp
      cases z
    · cases hcD
  ca := fun X I k => cls_get C X I k
end
end PySem.EV
namespace EV2
open PySem PySem.Spec PyProof.Rows L2
/-! ### isinstance(e, c), e an own error -/
/-- x is an own error of the class at D -/
def ErrAt (H : Hp) (x : V) (D : Addr) : Prop := ∃ (a : Addr) (d : Option Addr), x = .ref a ∧ H a = some (exo a D d) ∧ ∀ dd, d = some dd → ∃ fs, H dd = some (exd dd fs)
def rIsV (K : PySem.W.Frag) : List V → Hp → VK → Prop := fun xs H Q => ∃ (x c : V) (D : Addr) (cv : Value) (b : Bool), xs = [x, c] ∧ ErrAt H x D ∧ ExcC K D ∧ (∀ u, RelV c u → u = cv) ∧ PySem.W.kitOne K (.ref D) cv = some b ∧ Q (.bl b) H
theorem call_isV {X : Cx} : CallR X (.builtin "isinstance") (rIsV X.K) := by
  intro pins s σ H xs us Q I r h
  obtain ⟨x, c, D, cv, b, rfl, ⟨a, d, rfl, ha, hd⟩, C, hcv, e, q⟩ := h
  obtain ⟨u1, u2, rfl, r1, r2⟩ := vals2 r
  have ec := hcv _ r2
  subst ec
  obtain rfl : u1 = Value.ref a := r1
  obtain ⟨t1, ho⟩ := exo_at I.hok ha
  cases d with
  | none =>
    have J : PySem.W.InstAt s.heap a { cls := .ref D, dict := none, data := .fields #[.ref t1, .none, .none, .none, .bool false, .none] } D none := ⟨ho, rfl, rfl, trivial⟩
    exact PySem.W.kia_one (PySem.EV.kitx_err C) I.kIn J e (fun z => nomatch z) fun tk => ⟨.bl b, H, I.kept (t' := tk) fun _ _ z => z, rfl, q⟩
  | some dd =>
    obtain ⟨fs, hdd⟩ := hd dd rfl
    obtain ⟨mA, hns, _⟩ := exd_at I.hok hdd
    obtain ⟨od, eo, _⟩ := lookIn_ns hns
    have J : PySem.W.InstAt s.heap a { cls := .ref D, dict := some dd, data := .fields #[.ref t1, .none, .none, .none, .bool false, .none] } D (some od) := ⟨ho, rfl, rfl, eo⟩
    exact PySem.W.kia_one (PySem.EV.kitx_err C) I.kIn J e (fun z => nomatch z) fun tk => ⟨.bl b, H, I.kept (t' := tk) fun _ _ z => z, rfl, q⟩
/-! ### e.f -/
def tErrF (K : PySem.W.Frag) (f : Str) (te : TE) : TE := fun σ H Q => te σ H fun x H1 => ∃ (a C d : Addr) (fs : List (Str × V)) (v : V), x = .ref a ∧ H1 a = some (exo a C (some d)) ∧ H1 d = some (exd d fs) ∧ XfC K C ∧ PySem.W.findIn K (.ref C) f = some none ∧ fs.lookup f = some v ∧ Q v H1
theorem pe_errF {X : Cx} {e : Expr} {te : TE} {f : Str} {pos : Pos} (he : PE X e te) (hb : attributeBase e f X.env (eval e X.env) = eval e X.env := by rfl) : PE X (.Attribute e f pos) (tErrF X.K f te) := by
  refine ⟨fun pins s σ H Q I h => ?_⟩
  refine attr_of hb (thn (he.run pins s σ H _ I h) fun u s1 hh => ?_)
  obtain ⟨x, H1, I1, rx, a, C, d, fs, v, ex, ea, ed, T, hno, l, q⟩ := hh
  subst ex
  obtain rfl : u = Value.ref a := rx
  obtain ⟨t1, ho⟩ := exo_at I1.hok ea
  obtain ⟨mA, hns, hr⟩ := exd_at I1.hok ed
  obtain ⟨od, eo, hl⟩ := lookIn_ns hns
  obtain ⟨u, hu, ru⟩ := RelO.some_of (v := v) (o := mA f) (by rw [← l]; exact hr f)
  have J : PySem.W.InstAt s1.heap a { cls := .ref C, dict := some d, data := .fields #[.ref t1, .none, .none, .none, .bool false, .none] } C (some od) := ⟨ho, rfl, rfl, eo⟩
  exact HandSPX.exc_get I1.kIn J T.ga T.gg T.exC (PySem.W.findObj_own T.hdC hno rfl (by rw [hl, hu])) (handed_of ru) ⟨v, H1, I1.tok _, ru, q⟩
/-! ### C(), C an own error without an __init__ of its own -/
def tMk0 (C : Addr) : TE := fun _ H Q => ∀ a, H a = none → Q (.ref a) (upd H a (exo a C none))
theorem pe_mk0 {X : Cx} {C : Addr} {bmB : List Value} {B newId initId : String} {x : Str} {p pos : Pos} (F : ExcBaseFacts B newId initId bmB) (q : PySem.W.excIn X.K C bmB newId = true) (gC : X.mg x = some (.ref C)) (kC : PySem.W.keepIn X.K (.ref C) = true) (hg : Gl X x)
    (hdb : (x == ("__debug__" : Str)) = false := by decide) : PE X (.Call (.Name x p) [] [] pos) (tMk0 C) := by
  refine ⟨fun pins s σ H Q I h => ?_⟩
  refine wpAny_Call_Name_kw (ld_glob I hg gC ?_ hdb)
  refine PySem.W.callWith_K0 I.kIn kC ?_
  show wpAny _ _ (call (.ref C) []) _ _ _
  obtain ⟨bm, N, nm, qn, bs, hdct, sn, sub, ab, col, dd, k0, k1, k2, k3, k5, mN, hC, hN, hni, T⟩ := exc_obj I.kIn q
  refine wpAny_call_exc_subT F T hC hN hni (fun h' e hm => ?_) (by show 0 ≤ sizeLine; rw [sizeLine_eq]; omega)
  obtain ⟨t, he, _, _⟩ := hm.there
  have hn := I.hok.gone hm.new
  exact ⟨.ref e, _, I.laidN (t' := s.toks) hm.keeps hm.new hn (exo_ok he), rfl, h e hn⟩
end EV2

set_option Elab.async false
set_option linter.all false
set_option maxRecDepth 100000
set_option maxHeartbeats 4000000
/-! Pens: a dict of three text keys, the cells and two numbers; common small facts. -/
namespace Pen
open PySem PySem.Spec PyProof.Rows L2
/-- all but what stands at p is as it was -/
def Sib (p : Addr) (H H' : Hp) : Prop := ∀ b o, b ≠ p → H b = some o → H' b = some o
theorem Sib.refl (p : Addr) (H : Hp) : Sib p H H := fun _ _ _ h => h
theorem Sib.trans {p : Addr} {H H1 H2 : Hp} (a : Sib p H H1) (b : Sib p H1 H2) : Sib p H H2 := fun c o n h => b c o n (a c o n h)
theorem Sib.new {p q : Addr} {o : HO} {H : Hp} (h : H q = none) : Sib p H (upd H q o) := fun b u _ e => by
  rw [upd_ne (ne_of_none e h)]
  exact e
theorem Sib.put {p : Addr} {o : HO} {H : Hp} : Sib p H (upd H p o) := fun b u n e => by
  rw [upd_ne n]
  exact e
/-- the pen's pairs: c the cells, i how many were taken, r what is left of the last one -/
def kvs (k1 k2 k3 : Str) (c : Addr) (i r : Int) : List (Key × V) := [(Sum.inr k1, .ref c), (Sum.inr k2, .int i), (Sum.inr k3, .int r)]
structure At (k1 k2 k3 : Str) (H : Hp) (p c : Addr) (cs : List Int) (i r : Int) : Prop where
  hp : H p = some (.dK (kvs k1 k2 k3 c i r))
  hc : H c = some (.lst (cs.map V.int))
  hl : cs.length ≤ 64
  h0 : 0 ≤ i
  h1 : i < 2 ^ 40
section
variable {k1 k2 k3 : Str} {H H' : Hp} {p c : Addr} {cs : List Int} {i r : Int}
theorem ref_ne (P : At k1 k2 k3 H p c cs i r) : c ≠ p := ne_of P.hc P.hp (by intro z; cases z)
theorem get1 (P : At k1 k2 k3 H p c cs i r) : DGet H p (.str k1) (some (.ref c)) := by
  have h := DGet.k (k := Sum.inr k1) P.hp
  have e : valV (kvs k1 k2 k3 c i r) (Sum.inr k1) = some (.ref c) := by simp [valV, kvs]
  rw [e] at h
  exact h
theorem get2 (P : At k1 k2 k3 H p c cs i r) (h12 : k1 ≠ k2) : DGet H p (.str k2) (some (.int i)) := by
  have h := DGet.k (k := Sum.inr k2) P.hp
  have e : valV (kvs k1 k2 k3 c i r) (Sum.inr k2) = some (.int i) := by simp [valV, kvs, h12]
  rw [e] at h
  exact h
theorem get3 (P : At k1 k2 k3 H p c cs i r) (h13 : k1 ≠ k3) (h23 : k2 ≠ k3) : DGet H p (.str k3) (some (.int r)) := by
  have h := DGet.k (k := Sum.inr k3) P.hp
  have e : valV (kvs k1 k2 k3 c i r) (Sum.inr k3) = some (.int r) := by simp [valV, kvs, h13, h23]
  rw [e] at h
  exact h
theorem put2 (P : At k1 k2 k3 H p c cs i r) (h12 : k1 ≠ k2) (h23 : k2 ≠ k3) (z : Int) : DPut H p (.str k2) (.int z) (upd H p (.dK (kvs k1 k2 k3 c z r))) := by
  have h := DPut.k (k := Sum.inr k2) (v := .int z) P.hp (by show 3 < sizeLine; decide)
  have e : putK (kvs k1 k2 k3 c i r) (Sum.inr k2) (.int z) = kvs k1 k2 k3 c z r := by
    have h3 : ¬ k3 = k2 := fun q => h23 q.symm
    simp [putK, kvs, h12, h3]
  rw [e] at h
  exact h
theorem put3 (P : At k1 k2 k3 H p c cs i r) (h13 : k1 ≠ k3) (h23 : k2 ≠ k3) (z : Int) : DPut H p (.str k3) (.int z) (upd H p (.dK (kvs k1 k2 k3 c i z))) := by
  have h := DPut.k (k := Sum.inr k3) (v := .int z) P.hp (by show 3 < sizeLine; decide)
  have e : putK (kvs k1 k2 k3 c i r) (Sum.inr k3) (.int z) = kvs k1 k2 k3 c i z := by simp [putK, kvs, h13, h23]
  rw [e] at h
  exact h
theorem At.to (P : At k1 k2 k3 H p c cs i r) {i' r' : Int} (hp : H' p = some (.dK (kvs k1 k2 k3 c i' r'))) (s : Sib p H H') (h0 : 0 ≤ i') (h1 : i' < 2 ^ 40) : At k1 k2 k3 H' p c cs i' r' :=
  ⟨hp, s _ _ (ref_ne P) P.hc, P.hl, h0, h1⟩
theorem At.new (P : At k1 k2 k3 H p c cs i r) {q : Addr} {o : HO} (h : H q = none) : At k1 k2 k3 (upd H q o) p c cs i r :=
  P.to (by rw [upd_ne (ne_of_none P.hp h)]; exact P.hp) (Sib.new h) P.h0 P.h1
theorem At.keep (P : At k1 k2 k3 H p c cs i r) (s : Same H H') : At k1 k2 k3 H' p c cs i r := P.to (s _ _ P.hp) (fun b o _ h => s b o h) P.h0 P.h1
end
theorem fmod_lo {a m : Int} (h : 0 < m) : 0 ≤ a.fmod m := by
  rw [Int.fmod_eq_emod_of_nonneg a (by omega)]
  exact Int.emod_nonneg a (by omega)
theorem fmod_hi {a m : Int} (h : 0 < m) : a.fmod m < m := by
  rw [Int.fmod_eq_emod_of_nonneg a (by omega)]
  exact Int.emod_lt_of_pos a h
/-- cells != [] -/
theorem dp_ints {K : PySem.W.Frag} {H : Hp} : ∀ (cs : List Int), DpAll K H (cs.map V.int) (cs.map PyData.int)
  | [] => .nil
  | n :: cs => .cons (.int n) (dp_ints cs)
theorem can_ints : ∀ (cs : List Int), PyData.canLayAll0 (cs.map PyData.int) = true
  | [] => rfl
  | n :: cs => by
    show (PyData.canLay0 (.int n) && PyData.canLayAll0 (cs.map PyData.int)) = true
    rw [can_ints cs]
    all_goals rfl
theorem depth_ints : ∀ (cs : List Int), PyData.depthAll (cs.map PyData.int) = 0
  | [] => rfl
  | n :: cs => by
    show max (PyData.depth (.int n)) (PyData.depthAll (cs.map PyData.int)) = 0
    rw [depth_ints cs]
    all_goals rfl
theorem shaped_ints (cs : List Int) : SeqAt.shaped (.list (cs.map PyData.int)) = true := by
  unfold SeqAt.shaped
  show (PyData.canLayAll0 (cs.map PyData.int) && decide (PyData.depthAll (cs.map PyData.int) + 1 ≤ 64)) = true
  rw [can_ints, depth_ints]
  all_goals rfl
theorem eqv_nil : ∀ (cs : List Int), PyData.eqv (.list (cs.map PyData.int)) (.list []) = decide (cs = [])
  | [] => rfl
  | n :: cs => rfl
theorem fm64 {a m : Int} (h : 0 < m) (h2 : m ≤ 2 ^ 64) : -(2 ^ 64) < a.fmod m ∧ a.fmod m < 2 ^ 64 := by
  have h3 := fmod_lo (a := a) h
  have h4 := fmod_hi (a := a) h
  omega
theorem SqL_sib {K : PySem.W.Frag} {p l : Addr} {H H' : Hp} {xs : List V} (h : SqL K H l xs) (s : Sib p H H') (n : l ≠ p) : SqL K H' l xs := by
  rcases h with (h | ⟨o, h⟩) | h
  · exact .inl (.inl (s _ _ n h))
  · exact .inl (.inr ⟨o, s _ _ n h⟩)
  · exact .inr h
theorem at_ints {cs : List Int} {i : Int} (h0 : 0 ≤ i) (h1 : i < cs.length) : ∃ z, atI (cs.map V.int) i = some (.int z) := by
  have hk : i.toNat < cs.length := by omega
  refine ⟨cs[i.toNat], ?_⟩
  unfold atI ixN
  rw [List.length_map, if_pos h0, if_pos h1, Option.bind_some, List.getElem?_map, List.getElem?_eq_getElem hk]
  all_goals rfl
theorem cut_all {xs : List V} {n : Nat} (h : xs.length ≤ n) : cutV xs none (some (n : Int)) = xs := by
  have e1 : HT.sIx xs.length 0 none = 0 := rfl
  have e2 : HT.sIx xs.length xs.length (some (n : Int)) = xs.length := by
    rw [HT.sIx_nat]
    omega
  unfold cutV
  rw [e1, e2]
  simp
end Pen

set_option Elab.async false
set_option linter.all false
set_option maxRecDepth 100000
set_option maxHeartbeats 4000000
/-! Own errors with one or two fields that their __init__ stores: what stands behind C(..). -/
namespace EV2
open PySem PySem.Spec PyProof.Rows L2
/-- an error with the fields fs -/
structure ErrF (H : Hp) (a d C : Addr) (fs : List (Str × V)) : Prop where
  he : H a = some (exo a C (some d))
  hd : H d = some (exd d fs)
def spI1 (C : Addr) (f : Str) : Sp := fun vs H Q _ => ∃ (a : Addr) (v : V), vs = [.ref a, v] ∧ H a = some (exo a C none) ∧
  ∀ d, H d = none → d ≠ a → Q .non (upd (upd H d (exd d [(f, v)])) a (exo a C (some d)))
def spI2 (C : Addr) (f g : Str) : Sp := fun vs H Q _ => ∃ (a : Addr) (v u : V), vs = [.ref a, v, u] ∧ H a = some (exo a C none) ∧
  ∀ d, H d = none → d ≠ a → Q .non (upd (upd (upd H d (exd d [(f, v)])) a (exo a C (some d))) d (exd d [(g, u), (f, v)]))
section
variable {H : Hp} {Q : VK} {E : XK} {C : Addr} {f g : Str} {u v : V}
theorem rd_e1 (k : ∀ a d H', H a = none → H' a = some (exo a C (some d)) → H' d = some (exd d [(f, v)]) → Same H H' → Q (.ref a) H') :
    ∀ a, H a = none → spI1 C f [.ref a, v] (upd H a (exo a C none)) (fun z H3 => z = .non ∧ Q (.ref a) H3) E := fun a ha =>
  ⟨a, v, rfl, upd_same, fun d hd ne => ⟨rfl, k a d _ ha upd_same (by rw [upd_ne ne, upd_same]) fun b o e => by
    have n1 : b ≠ a := ne_of_none e ha
    have n2 : b ≠ d := fun z => by
      rw [z] at e
      rw [upd_ne ne, e] at hd
      cases hd
    rw [upd_ne n1, upd_ne n2, upd_ne n1]
    exact e⟩⟩
theorem rd_e2 (k : ∀ a d H', H a = none → H' a = some (exo a C (some d)) → H' d = some (exd d [(g, u), (f, v)]) → Same H H' → Q (.ref a) H') :
    ∀ a, H a = none → spI2 C f g [.ref a, v, u] (upd H a (exo a C none)) (fun z H3 => z = .non ∧ Q (.ref a) H3) E := fun a ha =>
  ⟨a, v, u, rfl, upd_same, fun d hd ne => ⟨rfl, k a d _ ha (by rw [upd_ne (Ne.symm ne), upd_same]) upd_same fun b o e => by
    have n1 : b ≠ a := ne_of_none e ha
    have n2 : b ≠ d := fun z => by
      rw [z] at e
      rw [upd_ne ne, e] at hd
      cases hd
    rw [upd_ne n2, upd_ne n1, upd_ne n2, upd_ne n1]
    exact e⟩⟩
end
/-- how a def binds positional and keyword arguments, told by its text -/
theorem kbn_of {K : PySem.W.Frag} {x qual : Str} {st : Stmt} {f : Addr} {fd : FuncData} {ps ks : List Str} {n : Nat} {g : List Value → List Value → List Value} {gV : List V → List V → List V} (F : Fun K x qual st f fd)
    (h : ∀ (kV doc pm : Value) (an : Option Addr) (cdv ct : Value) (us ws : List Value), us.length = n → ws.length = ks.length → bindArgs (PySem.W.fnOf x qual (defArgs st) (defBody st) (defScope st) .none kV doc pm an cdv ct) ⟨us, ks.zip ws⟩ = pure (ps.zip (g us ws)))
    (hr : ∀ {vs : List V} {us : List Value} {zs : List V} {ws : List Value}, Vals vs us → Vals zs ws → Vals (gV vs zs) (g us ws)) : KBn K fd ps n ks g gV := by
  obtain ⟨oc, od, kV, doc, pm, an, cdv, ct, osl, rfl, lk, hcd⟩ := F.ex
  exact ⟨fun s us ws X l1 l2 => .of_eq (h kV doc pm an cdv ct us ws l1 l2), hr⟩
/-- two keywords in the other order -/
def swapK {α : Type} (us ws : List α) : List α := us ++ ws.reverse
theorem vals_rev : ∀ {vs : List V} {us : List Value}, Vals vs us → Vals vs.reverse us.reverse
  | _, _, .nil => .nil
  | _, _, .cons r t => by
    rw [List.reverse_cons, List.reverse_cons]
    exact (vals_rev t).append (.cons r .nil)
end EV2

set_option Elab.async false
set_option linter.all false
set_option maxRecDepth 100000
set_option maxHeartbeats 4000000
/-! What readings give, for errors that are made and asked on the spot, for lists of tuples, for isinstance. -/
namespace EV2
open PySem PySem.Spec PyProof.Rows L2 Evl
/-- tuples at ps with the items xss -/
abbrev TupsAt (H : Hp) : List Addr → List (List V) → Prop := Paired fun p xs => H p = some (.tup xs)
theorem TupsAt.ext {H H' : Hp} (e : Ex H H') : ∀ {ps : List Addr} {xss : List (List V)}, TupsAt H ps xss → TupsAt H' ps xss
  | _, _, .nil => .nil
  | _, _, .cons r t => .cons (e _ _ r) (TupsAt.ext e t)
def EvTs (ta : TA) (σ : L2.St) (H : Hp) (xss : List (List V)) : Prop := ∀ H1, Ex H H1 → ∀ Q : List V → Hp → Prop, (∀ ps H2, Ex H1 H2 → TupsAt H2 ps xss → Q (ps.map V.ref) H2) → ta σ H1 Q
section
variable {K : PySem.W.Frag} {σ : L2.St} {H : Hp} {te : TE} {ta tk tr : TA} {x v : V} {xs : List V} {xss : List (List V)} {f : Str} {C : Addr}
theorem ets_nil : EvTs tNil σ H [] := fun H1 _ _ q => q [] H1 (Ex.refl H1) .nil
theorem ets_cons (h : EvU te σ H xs) (hr : EvTs tr σ H xss) : EvTs (tCons te tr) σ H (xs :: xss) := fun H1 e Q q =>
  h H1 e _ fun p H2 _ e2 hp => hr H2 (e.trans e2) _ fun ps H3 e3 ht => q (p :: ps) H3 (e2.trans e3) (.cons (e3 _ _ hp) ht)
/-- a list of such tuples -/
def EvLT (te : TE) (σ : L2.St) (H : Hp) (xss : List (List V)) : Prop := ∀ H1, Ex H H1 → ∀ Q : VK, (∀ p ps H2, H1 p = none → Ex H1 H2 → H2 p = some (.lst (ps.map V.ref)) → TupsAt H2 ps xss → Q (.ref p) H2) → te σ H1 Q
theorem elt_lst (h : EvTs ta σ H xss) (hl : xss.length ≤ 100000) : EvLT (tLst ta) σ H xss := fun H1 e Q q =>
  h H1 e _ fun ps H2 e2 ht => ⟨by
    have z := Paired.length ht
    rw [List.length_map, z]
    exact sz_of hl, fun p hp => q p ps _ (fresh_back e2 hp) (e2.trans (Ex.new hp)) upd_same (ht.ext (Ex.new hp))⟩
/-- what follows an attribute of an error -/
def errK (K : PySem.W.Frag) (f : Str) (Q : VK) : VK := fun x H1 => ∃ (a C d : Addr) (fs : List (Str × V)) (v : V), x = .ref a ∧ H1 a = some (exo a C (some d)) ∧ H1 d = some (exd d fs) ∧ XfC K C ∧ PySem.W.findIn K (.ref C) f = some none ∧ fs.lookup f = some v ∧ Q v H1
/-- C(v).f -/
theorem ev_e1p {gV : List V → List V → List V} (hx : XfC K C) (no : PySem.W.findIn K (.ref C) f = some none) (ha : EvA ta σ H [v]) (hg : ∀ a : V, gV [a, v] [] = [a, v]) : Ev (tErrF K f (tMkV C 1 0 (spI1 C f) gV ta tNil)) σ H v := fun H1 e Q q =>
  ha H1 e _ fun H2 e2 => ⟨rfl, rfl, by decide, by
    intro a ha
    rw [hg]
    exact rd_e1 (Q := errK K f Q) (fun a d H3 ha he hd s => ⟨a, C, d, _, v, rfl, he, hd, hx, no, by simp [List.lookup], q H3 (e2.trans s)⟩) a ha⟩
/-- C(f = v).f -/
theorem ev_e1k {gV : List V → List V → List V} (hx : XfC K C) (no : PySem.W.findIn K (.ref C) f = some none) (ha : EvA tk σ H [v]) (hg : ∀ a : V, gV [a] [v] = [a, v]) : Ev (tErrF K f (tMkV C 0 1 (spI1 C f) gV tNil tk)) σ H v := fun H1 e Q q =>
  ha H1 e _ fun H2 e2 => ⟨rfl, rfl, by decide, by
    intro a ha
    rw [hg]
    exact rd_e1 (Q := errK K f Q) (fun a d H3 ha he hd s => ⟨a, C, d, _, v, rfl, he, hd, hx, no, by simp [List.lookup], q H3 (e2.trans s)⟩) a ha⟩
/-- errors with two fields: f and g are v and u behind it; h is the one that is asked, z its value -/
theorem ev_e2 {n m : Nat} {vs zs : List V} {g h : Str} {u z : V} {gV : List V → List V → List V} (hx : XfC K C) (no : PySem.W.findIn K (.ref C) h = some none) (ha : EvA ta σ H vs) (hk : EvA tk σ H zs) (l1 : vs.length = n) (l2 : zs.length = m) (hn : n ≤ 1000)
    (hg : ∀ a : V, gV (a :: vs) zs = [a, v, u]) (hz : ([(g, u), (f, v)] : List (Str × V)).lookup h = some z) : Ev (tErrF K h (tMkV C n m (spI2 C f g) gV ta tk)) σ H z := fun H1 e Q q =>
  ha H1 e _ fun H2 e2 => hk H2 (e.trans e2) _ fun H3 e3 => ⟨l1, l2, hn, by
    intro a ha
    rw [hg]
    exact rd_e2 (Q := errK K h Q) (fun a d H4 ha he hd s => ⟨a, C, d, _, z, rfl, he, hd, hx, no, hz, q H4 ((e2.trans e3).trans s)⟩) a ha⟩
end
end EV2

set_option Elab.async false
set_option linter.all false
set_option maxRecDepth 100000
set_option maxHeartbeats 4000000
/-! A new list that grows by tuples. -/
namespace EV2
open PySem PySem.Spec PyProof.Rows L2 Evl
structure Grown (H0 H : Hp) (l : Addr) (ts : List Addr) (xss : List (List V)) : Prop where
  nw : H0 l = none
  ex : Ex H0 H
  at_ : H l = some (.lst (ts.map V.ref))
  tp : TupsAt H ts xss
theorem tups_app {H : Hp} : ∀ {ps qs : List Addr} {xss yss : List (List V)}, TupsAt H ps xss → TupsAt H qs yss → TupsAt H (ps ++ qs) (xss ++ yss)
  | _, _, _, _, .nil, t => t
  | _, _, _, _, .cons r s, t => .cons r (tups_app s t)
theorem tups_upd {H : Hp} {l : Addr} {xs ys : List V} (h : H l = some (.lst xs)) : ∀ {ps : List Addr} {xss : List (List V)}, TupsAt H ps xss → TupsAt (upd H l (.lst ys)) ps xss
  | _, _, .nil => .nil
  | _, _, .cons r t => .cons (by
      rw [upd_ne (ne_of r h (by intro z; cases z))]
      exact r) (tups_upd h t)
section
variable {K : PySem.W.Frag} {σ : L2.St} {H0 H : Hp} {te : TE} {l : Addr} {ts : List Addr} {xss : List (List V)} {ys : List V} {tz : TS} {D : Ends} {i : Nat}
theorem grow (G : Grown H0 H l ts xss) (hi : σ[i]? = some (some (.ref l))) (h : EvU te σ H ys) (hz : ts.length < 1000) (k : ∀ p H', Grown H0 H' l (ts ++ [p]) (xss ++ [ys]) → tz D σ H') :
    tSeq (tDrop (tBM K "list" rAppend (tVar i) (tCons te tNil))) tz D σ H := by
  refine q_appU G.at_ (ev_var hi) h (by rw [List.length_map]; omega) fun p H1 hp e1 ht => k p _ ⟨G.nw, Ex.mut (G.ex.trans e1) G.nw, ?_, ?_⟩
  · rw [upd_same, List.map_append]
    rfl
  · exact tups_upd (e1 _ _ G.at_) (tups_app (G.tp.ext e1) (.cons ht .nil))
end
end EV2

set_option Elab.async false
set_option linter.all false
set_option maxRecDepth 100000
set_option maxHeartbeats 4000000
/-! Own errors right below one own base, which is a ValueError: what follows from the class's own line; which kind is which. -/
namespace EV2
open PySem PySem.Spec PyProof.Rows L2 Evl
def BM (S : Addr) : List Value := [.ref S, .type "ValueError", .type "Exception", .type "BaseException", .type "object"]
/-- the class's own line -/
def LineOf (K : PySem.W.Frag) (S C : Addr) : Prop := ∃ nm q N bs sn sub ab col dd k0 k1 k2 k3 k5, K.lookup C = some (excClassObj nm q C N bs (BM S) true sn sub ab col dd k0 k1 k2 k3 k5 "ValueError.__new__")
section
variable {K : PySem.W.Frag} {S C D : Addr}
theorem LineOf.cls (h : LineOf K S C) : ∃ cd, PySem.W.clsIn K C = some cd ∧ cd.mro = .ref C :: BM S ∧ cd.hasDict = true := by
  obtain ⟨nm, q, N, bs, sn, sub, ab, col, dd, k0, k1, k2, k3, k5, e⟩ := h
  refine ⟨_, by unfold PySem.W.clsIn; rw [e] <;> rfl, rfl, rfl⟩
theorem LineOf.mro (h : LineOf K S C) (v : Value) : PySem.W.mroIn K C v = some ((Value.ref C :: BM S).contains v) := by
  obtain ⟨cd, e, m, _⟩ := h.cls
  unfold PySem.W.mroIn
  rw [e, Option.bind_some, m, if_neg (by show ¬ false = true; decide)]
theorem LineOf.base (h : LineOf K S C) : PySem.W.subIn K (.ref C) (.type "BaseException") = some true := by
  show PySem.W.mroIn K C (.type "BaseException") = some true
  rw [h.mro]
  congr 1
theorem LineOf.value (h : LineOf K S C) : PySem.W.subIn K (.ref C) (.type "ValueError") = some true := by
  show PySem.W.mroIn K C (.type "ValueError") = some true
  rw [h.mro]
  congr 1
theorem LineOf.obj (h : LineOf K S C) : PySem.W.mroIn K C (.type "object") = some true := by
  rw [h.mro]
  congr 1
theorem LineOf.ty (h : LineOf K S C) : PySem.W.typeIn K (.ref C) = some (.type "type") := by
  obtain ⟨nm, q, N, bs, sn, sub, ab, col, dd, k0, k1, k2, k3, k5, e⟩ := h
  show (K.lookup C).map (·.cls) = some (.type "type")
  rw [e]
  all_goals rfl
theorem LineOf.dict (h : LineOf K S C) : PySem.W.hasDictIn K C = true := by
  obtain ⟨cd, e, _, d⟩ := h.cls
  unfold PySem.W.hasDictIn
  rw [e]
  exact d
theorem LineOf.isc (h : LineOf K S C) : (PySem.W.clsIn K C).isSome = true := by
  obtain ⟨cd, e, _⟩ := h.cls
  rw [e]
  all_goals rfl
theorem refs_bm : PySem.HandSPX.refsVE (BM S) = true := by rfl
theorem LineOf.ox (h : LineOf K S C) (sa : PySem.W.findIn K (.ref C) "__setattr__" = some (some (.builtin "object.__setattr__"))) (kC : PySem.W.keepIn K (.ref C) = true) : OexC K C := by
  have e1 := h.base
  have e2 := h.ty
  obtain ⟨nm, q, N, bs, sn, sub, ab, col, dd, k0, k1, k2, k3, k5, e⟩ := h
  exact ⟨⟨nm, q, N, bs, _, sn, sub, ab, col, dd, k0, k1, k2, k3, k5, e, refs_bm⟩, sa, e1, e2, kC⟩
/-- the look at an instance's class -/
structure GetC (K : PySem.W.Frag) : Prop where
  hn : PySem.W.specialIn K (.builtin "object.__class__") "__get__" = some (some (.builtin "getset_descriptor.__get__"))
  ht : PySem.W.takesIn K (.builtin "object.__class__") = some true
theorem LineOf.ic (h : LineOf K S C) (g : GetC K) (hg : PySem.W.findIn K (.ref C) "__getattribute__" = some (some (.builtin "BaseException.__getattribute__"))) (hk : PySem.W.findIn K (.ref C) "__getattr__" = some none)
    (ha : PySem.W.findIn K (.ref C) "__class__" = some (some (.builtin "object.__class__"))) : ExcC K C := ⟨hg, hk, h.base, h.dict, ha, g.hn, g.ht, h.obj⟩
theorem LineOf.xf (h : LineOf K S C) (hg : PySem.W.findIn K (.ref C) "__getattribute__" = some (some (.builtin "BaseException.__getattribute__"))) (hk : PySem.W.findIn K (.ref C) "__getattr__" = some none) : XfC K C := ⟨hg, hk, h.base, h.dict⟩
theorem ref_beq (a b : Addr) : (Value.ref a == Value.ref b) = decide (a = b) := by
  by_cases e : a = b
  · subst e
    simp
  · rw [decide_eq_false e]
    exact beq_eq_false_iff_ne.mpr fun q => e (Value.ref.inj q)
/-- isinstance(e, C), e of the class D: both right below S -/
theorem kit_below (hD : LineOf K S D) (hC : LineOf K S C) (n : C ≠ S) : PySem.W.kitOne K (.ref D) (.ref C) = some (decide (C = D)) := by
  unfold PySem.W.kitOne
  by_cases e : D = C
  · subst e
    rw [if_pos (by rw [ref_beq]; simp)]
    simp
  · rw [if_neg (by rw [ref_beq]; simp [e])]
    show (if ((PySem.W.clsIn K C).isSome && PySem.W.typeIn K (.ref C) == some (.type "type")) = true then PySem.W.subIn K (.ref D) (.ref C) else none) = some (decide (C = D))
    rw [hC.isc, hC.ty]
    rw [if_pos (by rfl)]
    show PySem.W.mroIn K D (.ref C) = some (decide (C = D))
    rw [hD.mro]
    congr 1
    have n1 : (Value.ref C == Value.ref D) = false := by rw [ref_beq]; exact decide_eq_false fun q => e q.symm
    have n2 : (Value.ref C == Value.ref S) = false := by rw [ref_beq]; exact decide_eq_false n
    have n3 : ∀ x : String, (Value.ref C == Value.type x) = false := fun x => beq_eq_false_iff_ne.mpr fun q => by cases q
    have q : decide (C = D) = false := decide_eq_false fun q => e q.symm
    rw [q]
    simp only [BM, List.contains_cons, n1, n2, n3, List.contains_nil, Bool.or_false]
/-- the base itself, and ValueError -/
theorem kit_base (hD : LineOf K S D) (sS : (PySem.W.clsIn K S).isSome = true) (tS : PySem.W.typeIn K (.ref S) = some (.type "type")) : PySem.W.kitOne K (.ref D) (.ref S) = some true := by
  unfold PySem.W.kitOne
  by_cases e : D = S
  · rw [if_pos (by rw [ref_beq]; simp [e])]
  · rw [if_neg (by rw [ref_beq]; simp [e])]
    show (if ((PySem.W.clsIn K S).isSome && PySem.W.typeIn K (.ref S) == some (.type "type")) = true then PySem.W.subIn K (.ref D) (.ref S) else none) = some true
    rw [sS, tS]
    rw [if_pos (by rfl)]
    show PySem.W.mroIn K D (.ref S) = some true
    rw [hD.mro]
    congr 1
    simp only [BM, List.contains_cons]
    rw [show (Value.ref S == Value.ref S) = true from by rw [ref_beq]; simp]
    simp
theorem kit_value (hD : LineOf K S D) : PySem.W.kitOne K (.ref D) (.type "ValueError") = some true := by
  unfold PySem.W.kitOne
  rw [if_neg (by intro q; exact absurd (beq_iff_eq.mp q) (by intro z; cases z))]
  show (if PySem.W.kitMeta "ValueError" = true then PySem.W.subIn K (.ref D) (.type "ValueError") else none) = some true
  rw [if_pos (by decide +kernel)]
  exact hD.value
end
/-- one among many -/
def marks (l : List Addr) (D : Addr) : List Int := l.map fun C => if C = D then 1 else 0
theorem marks_no : ∀ {l : List Addr} {D : Addr}, D ∉ l → marks l D = List.replicate l.length 0
  | [], _, _ => rfl
  | C :: l, D, h => by
    have h1 : ¬ C = D := fun e => h (by rw [e]; exact List.mem_cons_self ..)
    show (if C = D then 1 else 0) :: marks l D = _
    rw [if_neg h1, marks_no fun q => h (List.mem_cons_of_mem _ q)]
    rfl
theorem marks_at : ∀ {l : List Addr} {j : Nat} {D : Addr}, l.Nodup → l[j]? = some D → marks l D = List.replicate j 0 ++ [1] ++ List.replicate (l.length - 1 - j) 0
  | [], _, _, _, h => by simp at h
  | C :: l, 0, D, nd, h => by
    have e : C = D := Option.some.inj h
    subst e
    show (if C = C then 1 else 0) :: marks l C = _
    rw [if_pos rfl, marks_no (List.nodup_cons.mp nd).1]
    simp
  | C :: l, j + 1, D, nd, h => by
    have h' : l[j]? = some D := h
    have hm : D ∈ l := List.mem_of_getElem? h'
    have n : ¬ C = D := fun e => (List.nodup_cons.mp nd).1 (by rw [e]; exact hm)
    show (if C = D then 1 else 0) :: marks l D = _
    rw [if_neg n, marks_at (List.nodup_cons.mp nd).2 h']
    have hl : (C :: l).length - 1 - (j + 1) = l.length - 1 - j := by
      rw [List.length_cons]
      omega
    rw [hl]
    rfl
end EV2

set_option Elab.async false
set_option linter.all false
set_option maxRecDepth 100000
set_option maxHeartbeats 4000000
/-! Lists put together, isinstance of errors, list comprehensions: what they give. -/
namespace EV2
open PySem PySem.Spec PyProof.Rows L2 Evl
theorem ErrAt.ext {H H' : Hp} {x : V} {D : Addr} (e : Ex H H') (h : ErrAt H x D) : ErrAt H' x D := by
  obtain ⟨a, d, ex, ha, hd⟩ := h
  exact ⟨a, d, ex, e _ _ ha, fun dd z => by
    obtain ⟨fs, q⟩ := hd dd z
    exact ⟨fs, e _ _ q⟩⟩
section
variable {K : PySem.W.Frag} {σ : L2.St} {H : Hp} {ta tb tc te : TE} {x c v : V} {xs ys : List V} {k : Int} {a : Addr}
theorem el_cat (ha : EvL ta σ H xs) (hb : EvL tb σ H ys) (hl : xs.length + ys.length ≤ 100000) : EvL (tOp rCat ta tb) σ H (xs ++ ys) := fun H1 e Q q =>
  ha H1 e _ fun p H2 np e2 hp => hb H2 (e.trans e2) _ fun r H3 nr e3 hr => ⟨p, r, xs, ys, rfl, rfl, e3 _ _ hp, hr, sz_of hl, fun u hu => q u _ (fresh_back (e2.trans e3) hu) ((e2.trans e3).trans (Ex.new hu)) upd_same⟩
/-- the first one an old list -/
theorem el_catV (ha : Ev ta σ H (.ref a)) (h : H a = some (.lst xs)) (hb : EvL tb σ H ys) (hl : xs.length + ys.length ≤ 100000) : EvL (tOp rCat ta tb) σ H (xs ++ ys) := fun H1 e Q q =>
  ha H1 e _ fun H2 e2 => hb H2 (e.trans e2) _ fun r H3 nr e3 hr => ⟨a, r, xs, ys, rfl, rfl, e3 _ _ (e2 _ _ (e _ _ h)), hr, sz_of hl, fun u hu => q u _ (fresh_back (e2.trans e3) hu) ((e2.trans e3).trans (Ex.new hu)) upd_same⟩
/-- [v] * k -/
theorem el_rep1 (ha : EvL ta σ H [v]) (hb : Ev tb σ H (.int k)) (h0 : 0 ≤ k) (h1 : k ≤ 100000) : EvL (tOp rRep ta tb) σ H (List.replicate k.toNat v) := fun H1 e Q q =>
  ha H1 e _ fun p H2 np e2 hp => hb H2 (e.trans e2) _ fun H3 e3 => ⟨p, k, [v], rfl, rfl, e3 _ _ hp, by omega, by omega, by
    show 1 * k.toNat ≤ sizeLine
    exact sz_of (by omega), fun u hu => by
    have z := q u (upd H3 u (.lst (List.replicate k.toNat v))) (fresh_back (e2.trans e3) hu) ((e2.trans e3).trans (Ex.new hu)) upd_same
    have w : (List.replicate k.toNat [v]).flatten = List.replicate k.toNat v := by
      generalize k.toNat = n
      induction n with
      | zero => rfl
      | succ n ih => rw [List.replicate_succ, List.flatten_cons, ih]; rfl
    first
      | (rw [w]; exact z)
      | exact z⟩
/-- isinstance(x, c) of an own error -/
theorem ev_isV {D : Addr} {cv : Value} {b : Bool} (ha : Ev ta σ H x) (hc : Ev tc σ H c) (hx : ErrAt H x D) (C : ExcC K D) (hcv : ∀ u, RelV c u → u = cv) (hk : PySem.W.kitOne K (.ref D) cv = some b) :
    Ev (tCB (rIsV K) (tCons ta (tCons tc tNil))) σ H (.bl b) := fun H1 e Q q =>
  ha H1 e _ fun H2 e2 => hc H2 (e.trans e2) _ fun H3 e3 => ⟨x, c, D, cv, b, rfl, hx.ext ((e.trans e2).trans e3), C, hcv, hk, q H3 (e2.trans e3)⟩
theorem rel_ref {a : Addr} : ∀ u, RelV (.ref a) u → u = .ref a := fun u h => h
theorem rel_ty {n : String} : ∀ u, RelV (.ty n) u → u = .type n := fun u h => h
end
end EV2
namespace EV2
open PySem PySem.Spec PyProof.Rows L2 Evl
theorem et_yes {σ : L2.St} {H : Hp} : EvT tYes σ H true := fun H1 _ _ q => q H1 (Ex.refl H1)
theorem given_map {α : Type} (l : List α) (g : α → V) (d : V) : given l.length (fun _ => true) (fun i => (l[i]?.map g).getD d) = l.map g := by
  unfold given
  rw [List.filter_eq_self.mpr (fun _ _ => rfl)]
  apply List.ext_getElem?
  intro i
  rw [List.getElem?_map, List.getElem?_map]
  by_cases h : i < l.length
  · rw [List.getElem?_range h, List.getElem?_eq_getElem h]
    simp [h]
  · rw [List.getElem?_eq_none (by rw [List.length_range]; omega), List.getElem?_eq_none (by omega)]
    rfl
/-- [e for x in xs] where e of each item is known -/
theorem el_lcM {K : PySem.W.Frag} {σ : L2.St} {H : Hp} {te tl : TE} {α : Type} {a : Addr} {j : Nat} {vs : List Nat} (l : List α) (y g : α → V) (h : Ev tl σ H (.ref a)) (hx : SqL K H a (l.map y)) (hz : l.length ≤ 40000) (hw : ∀ x, wipe ((wipe σ vs).set j (some x)) vs = wipe σ vs)
    (he : ∀ (u : α) H1, Ex H H1 → u ∈ l → Ev te ((wipe σ vs).set j (some (y u))) H1 (g u)) : EvL (tLc (iList K tl) (gName j) tYes te vs) σ H (l.map g) := by
  have z := el_lcL (K := K) (te := te) (t := tYes) (j := j) (vs := vs) (fun _ => true) (fun i => (l[i]?.map g).getD .non) h hx (by rw [List.length_map]; exact hz) hw (fun _ _ _ _ _ => et_yes) (fun i x H1 e1 hi _ => by
    rw [List.getElem?_map] at hi
    cases q : l[i]? with
    | none => rw [q] at hi; cases hi
    | some u =>
      rw [q] at hi
      have e2 : y u = x := Option.some.inj hi
      rw [← e2]
      exact he u H1 e1 (List.mem_of_getElem? q))
  rw [List.length_map, given_map] at z
  exact z
/-- int(b), b a truth -/
theorem ev_intB {σ : L2.St} {H : Hp} {ta : TE} {b : Bool} (h : Ev ta σ H (.bl b)) : Ev (tCB (fun xs H Q => (∃ i, xs = [V.int i] ∧ Q (.int i) H) ∨ ∃ k, xs = [V.bl k] ∧ Q (.int (if k then 1 else 0)) H) (tCons ta tNil)) σ H (.int (if b then 1 else 0)) := fun H1 e Q q =>
  h H1 e _ fun H2 e2 => .inr ⟨b, rfl, q H2 e2⟩
theorem ev_intI {σ : L2.St} {H : Hp} {ta : TE} {i : Int} (h : Ev ta σ H (.int i)) : Ev (tCB (fun xs H Q => (∃ i, xs = [V.int i] ∧ Q (.int i) H) ∨ ∃ k, xs = [V.bl k] ∧ Q (.int (if k then 1 else 0)) H) (tCons ta tNil)) σ H (.int i) := fun H1 e Q q =>
  h H1 e _ fun H2 e2 => .inl ⟨i, rfl, q H2 e2⟩
end EV2

set_option Elab.async false
set_option linter.all false
set_option maxRecDepth 100000
set_option maxHeartbeats 4000000
/-! Lists of errors; equal lists of ints. -/
namespace EV2
open PySem PySem.Spec PyProof.Rows L2 Evl
abbrev ErrsAt (H : Hp) : List V → List Addr → Prop := Paired (ErrAt H)
theorem ErrsAt.ext {H H' : Hp} (e : Ex H H') : ∀ {xs : List V} {Ds : List Addr}, ErrsAt H xs Ds → ErrsAt H' xs Ds
  | _, _, .nil => .nil
  | _, _, .cons r t => .cons (ErrAt.ext e r) (ErrsAt.ext e t)
theorem errs_app {H : Hp} : ∀ {xs ys : List V} {Ds Es : List Addr}, ErrsAt H xs Ds → ErrsAt H ys Es → ErrsAt H (xs ++ ys) (Ds ++ Es)
  | _, _, _, _, .nil, t => t
  | _, _, _, _, .cons r s, t => .cons r (errs_app s t)
theorem errs_mem {H : Hp} : ∀ {xs : List V} {Ds : List Addr}, ErrsAt H xs Ds → ∀ x ∈ xs, ∃ D ∈ Ds, ErrAt H x D
  | _, _, .nil, x, h => by cases h
  | _, _, .cons (a := y) (b := D) r t, x, h => by
    rcases List.mem_cons.mp h with e | h
    · exact ⟨_, List.mem_cons_self .., by rw [e]; exact r⟩
    · obtain ⟨D', m, q⟩ := errs_mem t x h
      exact ⟨D', List.mem_cons_of_mem _ m, q⟩
theorem errs_at {H : Hp} : ∀ {xs : List V} {Ds : List Addr} {i : Nat} {D : Addr}, ErrsAt H xs Ds → Ds[i]? = some D → ∃ x, xs[i]? = some x ∧ ErrAt H x D
  | _, _, i, D, .nil, h => by simp at h
  | _, _, 0, D, .cons r t, h => by
    have e := Option.some.inj h
    subst e
    exact ⟨_, rfl, r⟩
  | _, _, i + 1, D, .cons r t, h => errs_at (i := i) t h
/-- a new error of the class D -/
def EvE (te : TE) (σ : L2.St) (H : Hp) (D : Addr) : Prop := ∀ H1, Ex H H1 → ∀ Q : VK, (∀ x H2, Ex H1 H2 → ErrAt H2 x D → Q x H2) → te σ H1 Q
def EvEs (ta : TA) (σ : L2.St) (H : Hp) (Ds : List Addr) : Prop := ∀ H1, Ex H H1 → ∀ Q : List V → Hp → Prop, (∀ xs H2, Ex H1 H2 → ErrsAt H2 xs Ds → Q xs H2) → ta σ H1 Q
section
variable {K : PySem.W.Frag} {σ : L2.St} {H : Hp} {te : TE} {ta tk tr : TA} {C D : Addr} {Ds Es : List Addr} {f g : Str} {u v : V} {xs : List V} {l : Addr} {i : Nat} {tz : TS} {En : Ends}
theorem ees_nil : EvEs tNil σ H [] := fun H1 _ _ q => q [] H1 (Ex.refl H1) .nil
theorem ees_cons (h : EvE te σ H D) (hr : EvEs tr σ H Ds) : EvEs (tCons te tr) σ H (D :: Ds) := fun H1 e Q q =>
  h H1 e _ fun x H2 e2 hx => hr H2 (e.trans e2) _ fun xs H3 e3 ht => q (x :: xs) H3 (e2.trans e3) (.cons (hx.ext e3) ht)
theorem ee_0 : EvE (tMk0 C) σ H C := fun H1 e Q q => fun a ha => q (.ref a) _ (Ex.new ha) ⟨a, none, rfl, upd_same, fun dd z => by cases z⟩
theorem ee_1 {gV : List V → List V → List V} (ha : EvA ta σ H [v]) (hg : ∀ a : V, gV [a, v] [] = [a, v]) : EvE (tMkV C 1 0 (spI1 C f) gV ta tNil) σ H C := fun H1 e Q q =>
  ha H1 e _ fun H2 e2 => ⟨rfl, rfl, by decide, by
    intro a ha
    rw [hg]
    exact rd_e1 (Q := Q) (fun a d H3 ha he hd s => q (.ref a) H3 (e2.trans s) ⟨a, some d, rfl, he, fun dd z => by cases z; exact ⟨_, hd⟩⟩) a ha⟩
theorem ee_2 {gV : List V → List V → List V} (ha : EvA ta σ H [v, u]) (hg : ∀ a : V, gV [a, v, u] [] = [a, v, u]) : EvE (tMkV C 2 0 (spI2 C f g) gV ta tNil) σ H C := fun H1 e Q q =>
  ha H1 e _ fun H2 e2 => ⟨rfl, rfl, by decide, by
    intro a ha
    rw [hg]
    exact rd_e2 (Q := Q) (fun a d H3 ha he hd s => q (.ref a) H3 (e2.trans s) ⟨a, some d, rfl, he, fun dd z => by cases z; exact ⟨_, hd⟩⟩) a ha⟩
/-- made = made + [ .. ] -/
theorem q_more (hi : σ[i]? = some (some (.ref l))) (hl : H l = some (.lst xs)) (hE : ErrsAt H xs Ds) (ha : EvEs ta σ H Es) (hz : xs.length + Es.length ≤ 100000)
    (k : ∀ l' H' ys, Ex H H' → H' l' = some (.lst ys) → ys.length = xs.length + Es.length → ErrsAt H' ys (Ds ++ Es) → tz En (σ.set i (some (.ref l'))) H') : tSeq (tAsg (tOp rCat (tVar i) (tLst ta)) (gName i)) tz En σ H := by
  refine ⟨_, hi, ha H (Ex.refl H) _ fun ys H2 e2 hY => ?_⟩
  have z := Paired.length hY
  refine ⟨sz_of (by omega), fun p hp => ?_⟩
  have e3 := e2.trans (Ex.new (o := .lst ys) hp)
  refine ⟨l, p, xs, ys, rfl, rfl, e3 _ _ hl, upd_same, sz_of (by omega), fun r hr => ?_⟩
  have e4 := e3.trans (Ex.new (o := .lst (xs ++ ys)) hr)
  exact k r _ (xs ++ ys) e4 upd_same (by rw [List.length_append, z]) (errs_app (hE.ext e4) (hY.ext ((Ex.new (o := .lst ys) hp).trans (Ex.new (o := .lst (xs ++ ys)) hr))))
end
theorem eqv_ints : ∀ (xs ys : List Int), PyData.eqvAll (xs.map PyData.int) (ys.map PyData.int) = decide (xs = ys)
  | [], [] => rfl
  | [], _ :: _ => rfl
  | _ :: _, [] => rfl
  | x :: xs, y :: ys => by
    show (PyData.eqv (.int x) (.int y) && PyData.eqvAll (xs.map PyData.int) (ys.map PyData.int)) = decide (x :: xs = y :: ys)
    rw [eqv_ints xs ys]
    show ((x == y) && decide (xs = ys)) = decide (x :: xs = y :: ys)
    by_cases h : x = y <;> by_cases h2 : xs = ys <;> simp [h, h2]
theorem rv_ints {K : PySem.W.Frag} {H : Hp} {p q : Addr} {xs ys : List Int} (hp : SqL K H p (xs.map V.int)) (hq : SqL K H q (ys.map V.int)) : RV (rEqD K) (.ref p) (.ref q) H (.bl (decide (xs = ys))) := fun H1 e Q k =>
  ⟨_, _, .lst (ex_l e hp) (Pen.dp_ints xs), .lst (ex_l e hq) (Pen.dp_ints ys), Pen.shaped_ints xs, Pen.shaped_ints ys, by
    show Q (.bl (PyData.eqvAll (xs.map PyData.int) (ys.map PyData.int))) H1
    rw [eqv_ints]
    exact k H1 (Ex.refl H1)⟩
/-- all(xs) of a new list of truths -/
theorem ev_all {K : PySem.W.Frag} {σ : L2.St} {H : Hp} {te : TE} {bs : List Bool} (h : EvL te σ H (bs.map V.bl)) : Ev (tCB (rAll K) (tCons te tNil)) σ H (.bl (bs.all id)) := fun H1 e Q q =>
  h H1 e _ fun p H2 _ e2 hp => ⟨p, bs, rfl, SqL.of hp, q H2 e2⟩
theorem all_true {α : Type} : ∀ (xs : List α), (xs.map fun _ => true).all id = true
  | [] => rfl
  | _ :: xs => by
    show (true && (xs.map fun _ => true).all id) = true
    rw [all_true xs]
    rfl
/-- len(x) -/
def rLenX (K : PySem.W.Frag) : List V → Hp → VK → Prop := fun xs H Q => ∃ x n, xs = [x] ∧ LenV K x H n ∧ Q (.int n) H
theorem ev_lenX {K : PySem.W.Frag} {σ : L2.St} {H : Hp} {ta : TE} {a : Addr} {xs : List V} (ha : Ev ta σ H (.ref a)) (h : SqL K H a xs) : Ev (tCB (rLenX K) (tCons ta tNil)) σ H (.int (xs.length : Int)) := fun H1 e Q q =>
  ha H1 e _ fun H2 e2 => ⟨_, xs.length, rfl, .inl ⟨xs, ex_l (e.trans e2) h, rfl⟩, q H2 e2⟩
theorem el_eq {te : TE} {σ : L2.St} {H : Hp} {xs ys : List V} (h : EvL te σ H xs) (e : xs = ys) : EvL te σ H ys := by
  rw [← e]
  exact h
end EV2

set_option Elab.async false
set_option linter.all false
set_option maxRecDepth 100000
set_option maxHeartbeats 4000000
/-! Raising own errors: without an __init__ and arguments, with keywords. -/
namespace EV2
open PySem PySem.Spec PyProof.Rows L2 Evl
/-- C(), made to be raised -/
theorem pmk_0 {X : Cx} {C : Addr} {bmB : List Value} {B newId initId : String} {x : Str} {p pos : Pos} (F : ExcBaseFacts B newId initId bmB) (q : PySem.W.excIn X.K C bmB newId = true) (gC : X.mg x = some (.ref C)) (kC : PySem.W.keepIn X.K (.ref C) = true) (r : Raises X (.ref C)) (hg : Gl X x)
    (hdb : (x == ("__debug__" : Str)) = false := by decide) : PMk X (.Call (.Name x p) [] [] pos) (fun _ H Q => Q (.ref C) none H) := by
  intro pins s σ H Q I h
  refine wpAny_Call_Name_kw (ld_glob I hg gC ?_ hdb)
  refine PySem.W.callWith_K0 I.kIn kC ?_
  show wpAny _ _ (call (.ref C) []) _ _ _
  obtain ⟨bm, N, nm, qn, bs, hdct, sn, sub, ab, col, dd, k0, k1, k2, k3, k5, mN, hC, hN, hni, T⟩ := exc_obj I.kIn q
  refine wpAny_call_exc_subT F T hC hN hni (fun h' e hm => ?_) (by show 0 ≤ sizeLine; rw [sizeLine_eq]; omega)
  exact mk_of I hm r h (I.hok.gone hm.new)
/-- C(e, .., k = v, ..), made to be raised -/
def tMkR (C : Addr) (n m : Nat) (sp : Sp) (gV : List V → List V → List V) (t tk : TA) : L2.St → Hp → XK → Prop := fun σ H Q => t σ H fun vs H1 => tk σ H1 fun zs H2 => vs.length = n ∧ zs.length = m ∧ n ≤ 1000 ∧
  ∀ a, H2 a = none → sp (gV (.ref a :: vs) zs) (upd H2 a (exo a C none))
    (fun v H3 => v = .non ∧ ∃ (d : Addr) (fs : List (Str × V)), H3 a = some (exo a C (some d)) ∧ H3 d = some (exd d fs) ∧ H2 d = none ∧ Q (.ref C) (some d) (upd (del H3 a) d (.xd fs))) fun _ _ _ => False
section
variable {X : Cx} {CX : CXT} {k n : Nat} {fI C : Addr} {fd : FuncData} {ps ks : List Str} {sp : Sp} {x : Str} {p pos : Pos} {e : Expr} {es : List Expr} {kws : List Keyword} {t tk : TA} {g : List Value → List Value → List Value} {gV : List V → List V → List V}
theorem run_mkR {pins : List (Addr × Obj)} {σ : L2.St} {H : Hp} {s : Shared} {Q : XK} {us ws : List Value} {vs zs : List V} (T : ErrC X.K C fI) (F : FnOk X.prog X.w X.K X.mg X.base CX k fI fd ps sp) (hr : Room (k + 1) X.A) (hb : KBn X.K fd ps (n + 1) ks g gV)
    (hx : Passes CX X fun _ _ _ => False) (I : Inv X pins σ H s) (r : Vals vs us) (rz : Vals zs ws) (l1 : vs.length = n) (l2 : zs.length = ks.length) (hn : n ≤ 1000)
    (h : ∀ a, H a = none → sp (gV (.ref a :: vs) zs) (upd H a (exo a C none))
      (fun v H3 => v = .non ∧ ∃ (d : Addr) (fs : List (Str × V)), H3 a = some (exo a C (some d)) ∧ H3 d = some (exd d fs) ∧ H d = none ∧ Q (.ref C) (some d) (upd (del H3 a) d (.xd fs))) fun _ _ _ => False) :
    wpAny (model X.prog X.w) X.A (call (.ref C) us (ks.zip ws)) (MkP X pins σ Q) X.xe s := by
  obtain ⟨nm, q, N, bs, bm, sn, sub, ab, col, dd, k0, k1, k2, k3, k5, hC, hbm⟩ := T.ox.cls
  obtain ⟨hp, gg, dr, tt, os⟩ := s
  have hsz : hp.objs.size ≤ hp.objs.size + 1 := Nat.le_succ _
  have nn : H (hp.objs.size + 1) = none := I.hok.fresh hsz
  have hq := h (hp.objs.size + 1) nn
  have kk : ∀ b o, hp.get? b = some o → ((hp.push (PySem.W.kdv_tup us)).push (PySem.HandSPX.excO C hp.objs.size)).get? b = some o := fun b o e => Heap.get?_push_of_some _ (Heap.get?_push_of_some _ e)
  have gt : ((hp.push (PySem.W.kdv_tup us)).push (PySem.HandSPX.excO C hp.objs.size)).get? (hp.objs.size + 1) = some (PySem.HandSPX.excO C hp.objs.size) := by heap_get
  have J : Inv X pins σ (upd H (hp.objs.size + 1) (exo (hp.objs.size + 1) C none)) ⟨(hp.push (PySem.W.kdv_tup us)).push (PySem.HandSPX.excO C hp.objs.size), gg, dr, tt, os⟩ :=
    I.laid (t' := tt) (a := hp.objs.size + 1) (o := exo (hp.objs.size + 1) C none) (h' := (hp.push (PySem.W.kdv_tup us)).push (PySem.HandSPX.excO C hp.objs.size)) kk hsz (exo_ok gt)
  have r1 : Vals (V.ref (hp.objs.size + 1) :: vs) (Value.ref (hp.objs.size + 1) :: us) := .cons rfl r
  have r2 := hb.rel r1 rz
  have n1 : (Value.ref (hp.objs.size + 1) :: us).length = n + 1 := by rw [List.length_cons, ← r.length, l1]
  have lu : us.length ≤ sizeLine := by
    rw [← r.length, l1, sizeLine_eq]
    omega
  refine wpAny_call (PySem.EV.call_kw PySem.F.excBase_ValueError (fun Y => PySem.HandSPX.refsVE_contains Y bm hbm) (I.kIn _ _ hC) (PySem.W.looks_findIn I.kIn T.ini) (fun me => PySem.W.bind_fn I.kIn me T.ty) lu
    (codeAny_mono (FnOk.run F _ X.stack _ _ ⟨Value.ref (hp.objs.size + 1) :: us, ks.zip ws⟩ (g (Value.ref (hp.objs.size + 1) :: us) ws) _ _ (fun _ _ _ => False) (hr.make C us (ks.zip ws)) (J.env0.make C us (ks.zip ws)) (hb.to _ (Value.ref (hp.objs.size + 1) :: us) ws J.kIn n1 (rz.length.symm.trans l2)) r2 hq) fun r s' hq' => ?_))
  cases r with
  | error e => exact hx pins σ _ _ e s' J hq'
  | ok fl =>
    cases fl with
    | ret u =>
      obtain ⟨v, H2, os2, bare2, un2, hok2, rv, ev, d, fs, ea, ed, hd1, q2⟩ := hq'
      subst ev
      obtain ⟨h2, g2, d2, t2, os'⟩ := s'
      exact ⟨rv, mk_end (raises_own T.ox.exC T.ox.tyC) I hsz kk un2 hok2 os2 bare2 ea ed hd1 q2⟩
    | next => exact False.elim hq'
    | brk => exact False.elim hq'
    | cont => exact False.elim hq'
theorem pmk_R (T : ErrC X.K C fI) (F : FnOk X.prog X.w X.K X.mg X.base CX k fI fd ps sp) (hr : Room (k + 1) X.A) (hg : Gl X x) (hm : X.mg x = some (.ref C)) (hb : KBn X.K fd ps (n + 1) [] g gV) (hx : Passes CX X fun _ _ _ => False) (ha : PA X (e :: es) t)
    (hdb : (x == ("__debug__" : Str)) = false := by decide) (he : starEach (e :: es) X.env = (false, eval e X.env) :: starEach es X.env := by rfl) (hpl : (backTo pos (starEach es X.env)).any (·.1) = false := by rfl) :
    PMk X (.Call (.Name x p) (e :: es) [] pos) (tMkR C n 0 sp gV t tNil) := by
  intro pins s σ H Q I h
  refine wpAny_Call_Name_kw (ld_glob I hg hm ?_ hdb)
  refine PySem.W.callWith_K (h₀ := X.base) I.ok.mod.kin T.ox.kC (thn (ha.run pos pins s σ H _ I h) fun us s1 ⟨vs, H1, I1, r, l1, _, hn, q⟩ => ⟨I1.kIn, ?_⟩) he hpl
  exact run_mkR (ks := []) (ws := []) (zs := []) T F hr hb hx I1 r .nil l1 rfl hn q
theorem pmk_RK0 (T : ErrC X.K C fI) (F : FnOk X.prog X.w X.K X.mg X.base CX k fI fd ps sp) (hr : Room (k + 1) X.A) (hg : Gl X x) (hm : X.mg x = some (.ref C)) (hb : KBn X.K fd ps 1 ks g gV) (hx : Passes CX X fun _ _ _ => False) (hkw : PK X kws tk)
    (hall : (backToKw pos (keywordEach kws X.env)).all (·.1.isSome) = true := by rfl) (hks : (backToKw pos (keywordEach kws X.env)).filterMap (·.1) = ks := by rfl) (hdb : (x == ("__debug__" : Str)) = false := by decide)
    (hpl : ((backTo pos (starEach [] X.env)).any (·.1) || (backToKw pos (keywordEach kws X.env)).any (·.1.isNone)) = false := by rfl) :
    PMk X (.Call (.Name x p) [] kws pos) (tMkR C 0 ks.length sp gV tNil tk) := by
  intro pins s σ H Q I h
  refine wpAny_Call_Name_kw (ld_glob I hg hm ?_ hdb)
  refine PySem.W.callWith_KW0 (h₀ := X.base) I.ok.mod.kin T.ox.kC hall ?_ hpl
  refine thn (hkw.run pos pins s σ H _ I h) fun ws s2 ⟨zs, H2, I2, rz, l1, l2, hn, q2⟩ => ⟨I2.kIn, ?_⟩
  rw [hks]
  exact run_mkR (us := []) (vs := []) T F hr hb hx I2 .nil rz rfl l2 hn q2
end
/-- what stands behind raise C(..) of an error with one field, with two: the error's own dict at d -/
theorem rr_e1 {H : Hp} {Q : XK} {E : XK} {C : Addr} {f : Str} {v : V} (k : ∀ d H', H d = none → Same H H' → H' d = some (.xd [(f, v)]) → Q (.ref C) (some d) H') :
    ∀ a, H a = none → spI1 C f [.ref a, v] (upd H a (exo a C none)) (fun z H3 => z = .non ∧ ∃ (d : Addr) (fs : List (Str × V)), H3 a = some (exo a C (some d)) ∧ H3 d = some (exd d fs) ∧ H d = none ∧ Q (.ref C) (some d) (upd (del H3 a) d (.xd fs))) E := fun a ha =>
  ⟨a, v, rfl, upd_same, fun d hd ne => ⟨rfl, d, _, upd_same, by rw [upd_ne ne, upd_same], by rw [upd_ne ne] at hd; exact hd, by
    have hd' : H d = none := by rw [upd_ne ne] at hd; exact hd
    refine k d _ hd' (fun b o e => ?_) upd_same
    have n1 : b ≠ a := ne_of_none e ha
    have n2 : b ≠ d := ne_of_none e hd'
    rw [upd_ne n2, del_ne n1, upd_ne n1, upd_ne n2, upd_ne n1]
    exact e⟩⟩
theorem rr_e2 {H : Hp} {Q : XK} {E : XK} {C : Addr} {f g : Str} {v u : V} (k : ∀ d H', H d = none → Same H H' → H' d = some (.xd [(g, u), (f, v)]) → Q (.ref C) (some d) H') :
    ∀ a, H a = none → spI2 C f g [.ref a, v, u] (upd H a (exo a C none)) (fun z H3 => z = .non ∧ ∃ (d : Addr) (fs : List (Str × V)), H3 a = some (exo a C (some d)) ∧ H3 d = some (exd d fs) ∧ H d = none ∧ Q (.ref C) (some d) (upd (del H3 a) d (.xd fs))) E := fun a ha =>
  ⟨a, v, u, rfl, upd_same, fun d hd ne => ⟨rfl, d, _, by rw [upd_ne (Ne.symm ne), upd_same], upd_same, by rw [upd_ne ne] at hd; exact hd, by
    have hd' : H d = none := by rw [upd_ne ne] at hd; exact hd
    refine k d _ hd' (fun b o e => ?_) upd_same
    have n1 : b ≠ a := ne_of_none e ha
    have n2 : b ≠ d := ne_of_none e hd'
    rw [upd_ne n2, del_ne n1, upd_ne n2, upd_ne n1, upd_ne n2, upd_ne n1]
    exact e⟩⟩
/-- except S, C right below S -/
theorem exm_below {K : PySem.W.Frag} {S C : Addr} (h : LineOf K S C) (bS : PySem.W.subIn K (.ref S) (.type "BaseException") = some true) (dS : PySem.W.hasDictIn K S = true) (tS : PySem.W.typeIn K (.ref S) = some (.type "type")) : PySem.W.exmOne K (.ref C) (.ref S) = some true :=
  PySem.W.exm_ref bS dS tS (by
    show PySem.W.mroIn K C (.ref S) = some true
    rw [h.mro]
    congr 1
    simp only [BM, List.contains_cons]
    rw [show (Value.ref S == Value.ref S) = true from by rw [ref_beq]; simp]
    simp)
end EV2

set_option Elab.async false
set_option linter.all false
set_option maxRecDepth 100000
set_option maxHeartbeats 4000000
/-! The drawn values of a law: plain ones, small tuples and lists, an empty dict; compared with themselves. -/
namespace EV2
open PySem PySem.Spec PyProof.Rows L2 Evl
/-- != of data or of dicts that hold the same -/
def rNeAny (K : PySem.W.Frag) : R2 := fun x y H Q => rNeD K x y H Q ∨ rNeDA x y H Q
theorem op_neAny {X : Cx} (hu : X.A.units + 64 < cLine) : OpR X (compareOp .NotEq) (rNeAny X.K) := by
  intro pins s σ H x y v u Q I rx ry h
  rcases h with h | h
  · exact op_neD hu pins s σ H x y v u Q I rx ry h
  · exact op_ne_dictA (by omega) pins s σ H x y v u Q I rx ry h
inductive Gd (H : Hp) : V → Prop
  | non : Gd H .non
  | bl (b : Bool) : Gd H (.bl b)
  | int (i : Int) : Gd H (.int i)
  | str (s : Str) : SeqAt.shaped (.str s) = true → Gd H (.str s)
  | two {a : Addr} (i j : Int) : H a = some (.tup [.int i, .int j]) → Gd H (.ref a)
  | one {a : Addr} (s : Str) : SeqAt.shaped (.list [.str s]) = true → H a = some (.lst [.str s]) → Gd H (.ref a)
  | emp {a : Addr} : H a = some (.dK []) → Gd H (.ref a)
  | deep {a b : Addr} (i j k : Int) : H a = some (.tup [.ref b, .int k]) → H b = some (.tup [.int i, .int j]) → Gd H (.ref a)
theorem Gd.ext {H H' : Hp} {v : V} (e : Ex H H') (g : Gd H v) : Gd H' v := by
  cases g with
  | non => exact .non
  | bl b => exact .bl b
  | int i => exact .int i
  | str s hs => exact .str s hs
  | two i j h => exact .two i j (e _ _ h)
  | one s hs h => exact .one s hs (e _ _ h)
  | emp h => exact .emp (e _ _ h)
  | deep i j k h h2 => exact .deep i j k (e _ _ h) (e _ _ h2)
theorem Gd.sib {p : Addr} {q : Key × V} {kv : List (Key × V)} {H H' : Hp} {v : V} (hp : H p = some (.dK (q :: kv))) (e : Pen.Sib p H H') (g : Gd H v) : Gd H' v := by
  cases g with
  | non => exact .non
  | bl b => exact .bl b
  | int i => exact .int i
  | str s hs => exact .str s hs
  | two i j h => exact .two i j (e _ _ (ne_of h hp (by intro z; cases z)) h)
  | one s hs h => exact .one s hs (e _ _ (ne_of h hp (by intro z; cases z)) h)
  | emp h => exact .emp (e _ _ (ne_of h hp (by intro z; cases z)) h)
  | deep i j k h h2 => exact .deep i j k (e _ _ (ne_of h hp (by intro z; cases z)) h) (e _ _ (ne_of h2 hp (by intro z; cases z)) h2)
section
variable {K : PySem.W.Frag} {H : Hp} {v : V}
theorem rv_data {d : PyData} (h : ∀ H1, Ex H H1 → Dp K H1 v d) (hs : SeqAt.shaped d = true) (he : PyData.eqv d d = true) : RV (rNeAny K) v v H (.bl false) := fun H1 e Q q =>
  .inl ⟨d, d, h H1 e, h H1 e, hs, hs, by
    rw [he]
    exact q H1 (Ex.refl H1)⟩
theorem rv_self (g : Gd H v) : RV (rNeAny K) v v H (.bl false) := by
  cases g with
  | non => exact rv_data (fun _ _ => .non) rfl rfl
  | bl b => exact rv_data (fun _ _ => .bl b) rfl (by cases b <;> rfl)
  | int i => exact rv_data (fun _ _ => .int i) rfl (by show (i == i) = true; simp)
  | str s hs => exact rv_data (fun _ _ => .str s) hs (by show (s == s) = true; simp)
  | two i j h => exact rv_data (fun H1 e => .tup (st_of (e _ _ h)) (.cons (.int i) (.cons (.int j) .nil))) rfl (by show ((i == i) && ((j == j) && true)) = true; simp)
  | one s hs h => exact rv_data (fun H1 e => .lst (sq_of (e _ _ h)) (.cons (.str s) .nil)) hs (by show ((s == s) && true) = true; simp)
  | emp h => exact fun H1 e Q q => .inr ⟨_, _, [], [], rfl, rfl, e _ _ h, e _ _ h, rfl, (fun p hp => by cases hp), q H1 (Ex.refl H1)⟩
  | deep i j k h h2 => exact rv_data (fun H1 e => .tup (st_of (e _ _ h)) (.cons (.tup (st_of (e _ _ h2)) (.cons (.int i) (.cons (.int j) .nil))) (.cons (.int k) .nil))) rfl (by show (((i == i) && ((j == j) && true)) && ((k == k) && true)) = true; simp)
theorem gd_ty (g : Gd H v) : ∃ n b, kitB n "bool" = some b ∧ ∀ H1, Ex H H1 → TyX K H1 v (.type n) := by
  cases g with
  | non => exact ⟨"NoneType", false, by decide +kernel, fun _ _ => .base .non⟩
  | bl b => exact ⟨"bool", true, by decide +kernel, fun _ _ => .base (.bl b)⟩
  | int i => exact ⟨"int", false, by decide +kernel, fun _ _ => .base (.int i)⟩
  | str s hs => exact ⟨"str", false, by decide +kernel, fun _ _ => .base (.str s)⟩
  | two i j h => exact ⟨"tuple", false, by decide +kernel, fun _ e => .base (.tup (e _ _ h))⟩
  | one s hs h => exact ⟨"list", false, by decide +kernel, fun _ e => .base (.lst (e _ _ h))⟩
  | emp h => exact ⟨"dict", false, by decide +kernel, fun _ e => .base (.dK (e _ _ h))⟩
  | deep i j k h h2 => exact ⟨"tuple", false, by decide +kernel, fun _ e => .base (.tup (e _ _ h))⟩
end
section
variable {K : PySem.W.Frag} {σ : L2.St} {H : Hp} {ta tb tc te : TE} {v : V} {tr ts : TA} {l : Addr} {xs : List V}
/-- isinstance(v, bool) twice, told apart -/
theorem et_isi (g : Gd H v) (ha : Ev ta σ H v) (hb : Ev tb σ H v) : EvT (tTest (tOp rNe (tCB (rIsi K) (tCons ta (tCons (tC (.ty "bool")) tNil))) (tCB (rIsi K) (tCons tb (tCons (tC (.ty "bool")) tNil))))) σ H false := by
  obtain ⟨n, b, hk, ty⟩ := gd_ty (K := K) g
  have one : ∀ {t : TE}, Ev t σ H v → Ev (tCB (rIsi K) (tCons t (tCons (tC (.ty "bool")) tNil))) σ H (.bl b) := fun h H1 e Q q =>
    h H1 e _ fun H2 e2 => ⟨v, .ty "bool", .type n, .type "bool", b, rfl, .ty "bool", ty H2 (e.trans e2), kit_ty hk, q H2 e2⟩
  have z := ev_op (one ha) (one hb) (rv_ne (x := .bl b) (y := .bl b) rfl)
  refine et_is (et_test z) ?_
  simp
/-- what is made is one of the drawn values -/
def EvG (te : TE) (σ : L2.St) (H : Hp) : Prop := ∀ H1, Ex H H1 → ∀ Q : VK, (∀ v H2, Ex H1 H2 → Gd H2 v → Q v H2) → te σ H1 Q
def EvGs (ta : TA) (σ : L2.St) (H : Hp) (n : Nat) : Prop := ∀ H1, Ex H H1 → ∀ Q : List V → Hp → Prop, (∀ vs H2, Ex H1 H2 → vs.length = n → (∀ v ∈ vs, Gd H2 v) → Q vs H2) → ta σ H1 Q
theorem eg_v (h : Ev te σ H v) (g : Gd H v) : EvG te σ H := fun H1 e Q q => h H1 e _ fun H2 e2 => q v H2 e2 (g.ext (e.trans e2))
theorem eg_c (g : ∀ H, Gd H v) : EvG (tC v) σ H := fun H1 e Q q => q v H1 (Ex.refl H1) (g H1)
theorem eg_two {i j : Int} (h : EvA tr σ H [.int i, .int j]) : EvG (tTup tr) σ H := fun H1 e Q q => h H1 e _ fun H2 e2 => ⟨by show 2 ≤ sizeLine; decide, fun p hp => q _ _ (e2.trans (Ex.new hp)) (.two i j upd_same)⟩
theorem eg_one {s : Str} (hs : SeqAt.shaped (.list [.str s]) = true) (h : EvA tr σ H [.str s]) : EvG (tLst tr) σ H := fun H1 e Q q => h H1 e _ fun H2 e2 => ⟨by show 1 ≤ sizeLine; decide, fun p hp => q _ _ (e2.trans (Ex.new hp)) (.one s hs upd_same)⟩
theorem eg_emp : EvG tDNewK σ H := fun H1 e Q q => fun p hp => q _ _ (Ex.new hp) (.emp upd_same)
theorem eg_deep {i j k : Int} (h : EvU ta σ H [.int i, .int j]) (hb : Ev tb σ H (.int k)) : EvG (tTup (tCons ta (tCons tb tNil))) σ H := fun H1 e Q q =>
  h H1 e _ fun p H2 _ e2 hp => hb H2 (e.trans e2) _ fun H3 e3 => ⟨by show 2 ≤ sizeLine; decide, fun r hr => q _ _ ((e2.trans e3).trans (Ex.new hr)) (.deep i j k upd_same (Ex.new hr _ _ (e3 _ _ hp)))⟩
theorem egs_nil : EvGs tNil σ H 0 := fun H1 _ Q q => q [] H1 (Ex.refl H1) rfl fun v hv => by cases hv
theorem egs_cons {n : Nat} (h : EvG te σ H) (hr : EvGs tr σ H n) : EvGs (tCons te tr) σ H (n + 1) := fun H1 e Q q =>
  h H1 e _ fun v H2 e2 g => hr H2 (e.trans e2) _ fun vs H3 e3 hl hg => q (v :: vs) H3 (e2.trans e3) (by rw [List.length_cons, hl]) fun u hu => by
    rcases List.mem_cons.mp hu with z | z
    · rw [z]
      exact g.ext e3
    · exact hg u z
theorem rd_gs {n : Nat} {Q : VK} (h : EvGs tr σ H n) (hz : n ≤ 100000) (q : ∀ l vs H2, H l = none → Ex H H2 → H2 l = some (.lst vs) → vs.length = n → (∀ v ∈ vs, Gd H2 v) → Q (.ref l) H2) : tLst tr σ H Q :=
  h H (Ex.refl H) _ fun vs H2 e2 hl hg => ⟨sz_of (by omega), fun p hp => q p vs _ (fresh_back e2 hp) (e2.trans (Ex.new hp)) upd_same hl fun v hv => (hg v hv).ext (Ex.new hp)⟩
theorem q_gs {n i : Nat} {tz : TS} {D : Ends} (h : EvGs tr σ H n) (hz : n ≤ 100000) (k : ∀ l vs H2, H l = none → Ex H H2 → H2 l = some (.lst vs) → vs.length = n → (∀ v ∈ vs, Gd H2 v) → tz D (σ.set i (some (.ref l))) H2) : tSeq (tAsg (tLst tr) (gName i)) tz D σ H :=
  rd_gs (Q := fun v H2 => tz D (σ.set i (some v)) H2) h hz k
theorem q_asgK {i : Nat} {tz : TS} {D : Ends} (h : te σ H fun v H1 => tz D (σ.set i (some v)) H1) : tSeq (tAsg te (gName i)) tz D σ H := h
def rMin2 : List V → Hp → VK → Prop := fun xs H Q => ∃ i j, xs = [.int i, .int j] ∧ Q (.int (if j < i then j else i)) H
theorem ev_min2 {i j : Int} (ha : Ev ta σ H (.int i)) (hb : Ev tb σ H (.int j)) : Ev (tCB rMin2 (tCons ta (tCons tb tNil))) σ H (.int (if j < i then j else i)) := fun H1 e Q q =>
  ha H1 e _ fun H2 e2 => hb H2 (e.trans e2) _ fun H3 e3 => ⟨i, j, rfl, q H3 (e2.trans e3)⟩
end
end EV2

set_option Elab.async false
set_option linter.all false
set_option maxRecDepth 100000
set_option maxHeartbeats 4000000
/-! Texts of ascii signs: upper, lower, letters, lists of them. -/
namespace TX
open PySem PySem.Spec PyProof.Rows L2 Evl
abbrev S (l : List Nat) : Str := ⟨l.toArray⟩
theorem len_S (l : List Nat) : (S l).length = l.length := by
  show l.toArray.size = l.length
  simp
theorem app_S (a b : List Nat) : S a ++ S b = S (a ++ b) := by
  show (⟨a.toArray ++ b.toArray⟩ : Str) = ⟨(a ++ b).toArray⟩
  simp
theorem S_inj {a b : List Nat} (h : S a = S b) : a = b := by
  have h2 : a.toArray = b.toArray := congrArg Str.cps h
  have h3 := congrArg Array.toList h2
  simpa using h3
def up (c : Nat) : Nat := if 97 ≤ c ∧ c ≤ 122 then c - 32 else c
def low (c : Nat) : Nat := if 65 ≤ c ∧ c ≤ 90 then c + 32 else c
def let1 (c : Nat) : Bool := decide (65 ≤ up c ∧ up c ≤ 90)
def A26 : Str := "ABCDEFGHIJKLMNOPQRSTUVWXYZ"
theorem up_of : ∀ c, c < 128 → Unicode.upperOf c = [up c] := by decide +kernel
theorem low_of : ∀ c, c < 128 → Txt.lower (S [c]) = S [low c] := by decide +kernel
theorem alpha_of : ∀ c, c < 128 → Unicode.isAlpha c = let1 c := by decide +kernel
theorem in_of : ∀ c, c < 128 → decide (c ∈ A26.cps.toList) = decide (65 ≤ c ∧ c ≤ 90) := by decide +kernel
theorem ix_of : ∀ c, c < 128 → 65 ≤ c → c ≤ 90 → Txt.index0 A26 (S [c]) = some (c - 65) := by decide +kernel
theorem at_of : ∀ c : Nat, c < 26 → atI A26.cps.toList (c : Int) = (some (65 + c) : Option Nat) := by decide +kernel
theorem up_lt {c : Nat} (h : c < 128) : up c < 128 := by
  unfold up
  split <;> omega
theorem up_S {l : List Nat} (h : ∀ c ∈ l, c < 128) : Txt.upper (S l) = S (l.map up) := by
  have e : ∀ l : List Nat, (placed (S l) fun _ c => Unicode.upperOf c) = (l.flatMap Unicode.upperOf).toArray := fun l => by
    have m : (l.toArray.mapIdx fun (_ : Nat) c => (Unicode.upperOf c).toArray) = (l.map fun c => (Unicode.upperOf c).toArray).toArray := by
      apply Array.ext_getElem?
      intro i
      simp
    show (l.toArray.mapIdx fun (_ : Nat) c => (Unicode.upperOf c).toArray).flatten = _
    rw [m]
    apply Array.toList_inj.mp
    rw [Array.toList_flatten]
    simp only [List.map_map, List.flatMap, List.map_toArray]
    congr 1
  have e2 : l.flatMap Unicode.upperOf = l.map up := by
    induction l with
    | nil => rfl
    | cons x l ih =>
      rw [List.flatMap_cons, up_of x (h x (List.mem_cons_self ..)), ih fun c hc => h c (List.mem_cons_of_mem _ hc)]
      rfl
  show (⟨placed (S l) fun _ c => Unicode.upperOf c⟩ : Str) = _
  rw [e, e2]
theorem alpha_S {l : List Nat} (h : ∀ c ∈ l, c < 128) : Txt.isalpha (S l) = (decide (0 < l.length) && l.all let1) := by
  unfold Txt.isalpha
  rw [len_S]
  congr 1
  show l.toArray.all Unicode.isAlpha = _
  rw [List.all_toArray]
  induction l with
  | nil => rfl
  | cons x l ih =>
    rw [List.all_cons, List.all_cons, alpha_of x (h x (List.mem_cons_self ..)), ih fun c hc => h c (List.mem_cons_of_mem _ hc)]
theorem ascii_S {l : List Nat} (h : ∀ c ∈ l, c < 128) : Txt.isascii (S l) = true := by
  show l.toArray.all (fun c => c < 128) = true
  rw [List.all_toArray]
  exact List.all_eq_true.mpr fun c hc => decide_eq_true (h c hc)

/-! ### lists of signs, walks over texts -/
abbrev sg (c : Nat) : V := .str (S [c])
def rLstS : List V → Hp → VK → Prop := fun xs H Q => ∃ z : Str, xs = [.str z] ∧ z.length ≤ sizeLine ∧ ∀ l, H l = none → Q (.ref l) (upd H l (.lst (z.cps.toList.map sg)))
theorem call_listS {X : Cx} (hc : X.calm = true) : CallR X (.type "list") rLstS := by
  intro pins s σ H xs us Q I r h
  obtain ⟨z, rfl, hz, q⟩ := h
  obtain ⟨u, rfl, t, rfl⟩ := vals1 r
  refine call_list_str (I.ok.hd hc) z t (fun h' tk acc c' hk e hi => ?_) hz
  refine ⟨.ref s.heap.objs.size, upd H s.heap.objs.size (.lst (z.cps.toList.map sg)), I.laid hk (Nat.le_refl _) ⟨by rw [List.length_map]; exact hz, acc.toList, c', ?_, by rw [Array.toArray_toList]; exact e⟩, rfl, q _ (I.hok.fresh (Nat.le_refl _))⟩
  refine vals_of_idx _ _ (by rw [List.length_map, Array.length_toList, Array.length_toList]; exact hi.1) fun j u hj => ?_
  obtain ⟨c, t', hc, rfl⟩ := hi.2 j u (by rw [← Array.getElem?_toList]; exact hj)
  refine ⟨sg c, ?_, ⟨_, rfl⟩⟩
  rw [List.getElem?_map, Array.getElem?_toList, hc]
  rfl
section
variable {K : PySem.W.Frag} {σ : L2.St} {H : Hp} {te ta tb : TE} {g : TG} {tu tz : TS} {D : Ends} {l m : List Nat} {a b : Str}
theorem el_listS (h : Ev te σ H (.str (S l))) (hl : l.length ≤ 100000) : EvL (tCB rLstS (tCons te tNil)) σ H (l.map sg) := fun H1 e Q q =>
  h H1 e _ fun H2 e2 => ⟨S l, rfl, by rw [len_S]; exact sz_of hl, fun p hp => q p _ (fresh_back e2 hp) (e2.trans (Ex.new hp)) upd_same⟩
/-- for c in text -/
theorem q_forS (h : Ev te σ H (.str (S l))) (Pv : Nat → L2.St → Hp → Prop) (h0 : ∀ H1, Ex H H1 → Pv 0 σ H1)
    (hs : ∀ i c σ' H', l[i]? = some c → Pv i σ' H' → g (sg c) σ' H' fun σ2 H2 => tu { D with nx := Pv (i + 1), ct := Pv (i + 1), bk := tz D } σ2 H2) (hd : ∀ σ' H', Pv l.length σ' H' → tz D σ' H') : tSeq (tFor (iStr te) g tu) tz D σ H :=
  h H (Ex.refl H) _ fun H1 e1 => ⟨S l, rfl, fun i m σ' H' => m = l.length - i ∧ i ≤ l.length ∧ Pv i σ' H', ⟨l.length, by simp, Nat.zero_le _, h0 H1 e1⟩, by
    rintro i m σ' H' ⟨rfl, hi, p⟩
    have sz : (S l).cps.size = l.length := len_S l
    by_cases hlt : i < l.length
    · refine .inr ⟨by show i < (S l).cps.size; rw [sz]; exact hlt, Pv (i + 1), fun σ' H' p' => ⟨l.length - (i + 1), by omega, rfl, hlt, p'⟩, fun x H'' y => ?_⟩
      obtain ⟨e, c, hc, ex⟩ := y
      subst e
      subst ex
      refine hs i c _ _ ?_ p
      have hc' : l.toArray[i]? = some c := hc
      simpa using hc'
    · have e : i = l.length := by omega
      subst e
      exact .inl ⟨by show (S l).cps.size ≤ _; rw [sz]; exact Nat.le_refl _, hd _ _ p⟩⟩
/-- texts put together, upper and lower, letters -/
theorem rv_addS (hz : a.length + b.length ≤ 100000) : RV (fun x y H Q => ∃ i j : Str, x = .str i ∧ y = .str j ∧ i.length + j.length ≤ sizeLine ∧ Q (.str (i ++ j)) H) (.str a) (.str b) H (.str (a ++ b)) := fun H1 _ _ q => ⟨a, b, rfl, rfl, sz_of hz, q H1 (Ex.refl H1)⟩
theorem ev_addS (ha : Ev ta σ H (.str (S l))) (hb : Ev tb σ H (.str (S m))) (hz : l.length + m.length ≤ 100000) : Ev (tOp (fun x y H Q => ∃ i j : Str, x = .str i ∧ y = .str j ∧ i.length + j.length ≤ sizeLine ∧ Q (.str (i ++ j)) H) ta tb) σ H (.str (S (l ++ m))) := by
  have z := ev_op ha hb (rv_addS (H := H) (a := S l) (b := S m) (by rw [len_S, len_S]; exact hz))
  rw [app_S] at z
  exact z
end
end TX

set_option Elab.async false
set_option linter.all false
set_option maxRecDepth 100000
set_option maxHeartbeats 4000000
/-! try with several clauses that bind one name. -/
namespace TX
open PySem PySem.Spec PyProof.Rows L2 Evl
/-- an exception of the body on its way through the clauses: sI is the state ahead of it, s the one now -/
structure Air (X : Cx) (pins : List (Addr × Obj)) (σ : L2.St) (H : Hp) (a : Addr) (cls : Value) (d : Option Addr) (B : Heap) (sI s : Shared) : Prop where
  st : X.stack = X.env :: X.outer
  fr : X.env.frame = some X.env.locals
  J : Inv X pins σ H sI
  nb : ∀ b o, sI.heap.get? b = some o → b ∉ frs X.stack → B.get? b = some o
  up : sI.heap.UpToSlots s.heap
  fl : HandSPX.FlyingZ B (X.env :: X.outer) a (Zc cls d) s.heap
  na : H a = none
  os : s.os = sI.os
  ag : AllBare s.gens
section
variable {X : Cx} {pins : List (Addr × Obj)} {σ : L2.St} {H : Hp} {a : Addr} {cls : Value} {d : Option Addr} {B : Heap} {sI s : Shared} {Wout : WX}
theorem Air.to (x : Air X pins σ H a cls d B sI s) {h : Heap} (fl : HandSPX.FlyingZ B (X.env :: X.outer) a (Zc cls d) h) (u : s.heap.UpToSlots h) : Air X pins σ H a cls d B sI { s with heap := h } :=
  ⟨x.st, x.fr, x.J, x.nb, x.up.trans u, fl, x.na, x.os, x.ag⟩
theorem Air.inv (x : Air X pins σ H a cls d B sI s) : Inv X pins σ H s := x.J.landed x.nb x.fl.1 x.up x.os x.ag
/-- no frame is the exception -/
theorem Air.apart (x : Air X pins σ H a cls d B sI s) {o : Obj} {vs : Array Value} (e : s.heap.get? a = some o) (q : o.data = .fields vs) : a ∉ frs (X.env :: X.outer) := fun m => by
  obtain ⟨_, o2, e2, no⟩ := x.fl.2.2.1.mem m
  rw [e2] at e
  cases e
  exact no _ q
theorem Air.into (x : Air X pins σ H a cls d B sI s) : ∃ oe : Obj, s.heap.get? a = some oe ∧ Zc cls d oe ∧ (∃ vs, oe.data = .fields vs) ∧ Inv (X.suite a ((a, oe) :: (X.pn ++ pins))) [] σ H s := by
  obtain ⟨oe, vs, e, z, q⟩ := x.fl.there
  have ap := x.apart e q
  refine ⟨oe, e, z, ⟨vs, q⟩, x.inv.suite e q x.na (fun w => ap ?_) fun w => ap ?_⟩
  · exact List.mem_filterMap.mpr ⟨X.env, List.mem_cons_self, by rw [x.fr, w]⟩
  · obtain ⟨en, m, r⟩ := List.mem_filterMap.mp w
    exact List.mem_filterMap.mpr ⟨en, List.mem_cons_of_mem _ m, r⟩
/-- no clause takes it -/
theorem Air.on (x : Air X pins σ H a cls d B sI s) (tk : Takes X Wout) {D : Ends} (w : Wout cls d σ H) : wpAny (model X.prog X.w) X.A (handleBy (.ref a) X.env []) (SP X pins D) X.xe s := by
  have away : wpAny (model X.prog X.w) X.A (setFlight (.ref a) X.env.frame) (fun _ s4 => wpAny (model X.prog X.w) X.A (throw (.ref a) : Sem Flow) (SP X pins D) X.xe s4) X.xe s := by
    rw [x.fr]
    exact HandSPX.setFlight_upZ x.fl fun h2 hd2 u2 => wpAny_throw (tk _ _ ⟨a, B, sI, pins, σ, H, cls, d, rfl, x.J, x.nb, x.up.trans u2, .inr (.inr (by rw [x.st]; exact hd2)), x.na, x.os, x.ag, w⟩)
  refine wpAny_handleBy_nil ?_
  obtain ⟨_, _, _, oe, vs, T, oT, tt, e, z, q, v1, r⟩ := x.fl
  unfold PySem.passOn
  refine wpAny_bind (wpAny_field e q v1 ?_)
  rw [if_neg (fun g => by simp at g)]
  first
    | exact wpAny_bind (wpAny_pure (wpAny_bind away))
    | exact wpAny_bind away
end
/-- the ends, slot i forgotten -/
abbrev offE (i : Nat) (D : Ends) : Ends := { nx := fun σ' H' => D.nx (σ'.set i none) H', rt := D.rt, bk := fun σ' H' => D.bk (σ'.set i none) H', ct := fun σ' H' => D.ct (σ'.set i none) H' }
abbrev Clause := Value × (Addr → Value → Option Addr → TS)
/-- what the clauses wish -/
def wAsM (K : PySem.W.Frag) (i : Nat) (Wout : WX) (D : Ends) : List Clause → WX
  | [] => Wout
  | (c, ts) :: r => fun cls d σ H => ∃ b, PySem.W.exmOne K cls c = some b ∧ (b = true → ∀ a, H a = none → ts a cls d (offE i D) (σ.set i (some (.ref a))) H) ∧ (b = false → wAsM K i Wout D r cls d σ H)
inductive HdAs (X : Cx) (n : Str) : List ExceptHandler → List Clause → Prop
  | nil : HdAs X n [] []
  | cons {x : Str} {c : Value} {ts : Addr → Value → Option Addr → TS} {b0 : Stmt} {suite : List Stmt} {np hp : Pos} {hds : List ExceptHandler} {l : List Clause} (hc : Names X x c)
      (hsu : ∀ (a : Addr) (oe : Obj) (cls : Value) (d : Option Addr) (pn : List (Addr × Obj)), Zc cls d oe → (∃ vs, oe.data = .fields vs) → PSs (X.suite a ((a, oe) :: pn)) (b0 :: suite) (ts a cls d)) (r : HdAs X n hds l) :
      HdAs X n (.ExceptHandler (some (.Name x np)) (some n) (b0 :: suite) hp :: hds) ((c, ts) :: l)
section
variable {X : Cx} {pins : List (Addr × Obj)} {σ : L2.St} {H : Hp} {a : Addr} {cls : Value} {d : Option Addr} {B : Heap} {sI s : Shared} {Wout : WX} {i : Nat} {n : Str}
/-- the clauses, one by one -/
theorem Air.clauses (hN : X.N.Nodup) (hi : X.N[i]? = some n) (hln : X.env.kindOf n = some .local) (tk : Takes X Wout) {D : Ends} : ∀ {hds : List ExceptHandler} {l : List Clause}, HdAs X n hds l → ∀ {s : Shared}, Air X pins σ H a cls d B sI s →
    wAsM X.K i Wout D l cls d σ H → wpAny (model X.prog X.w) X.A (handleBy (.ref a) X.env hds) (SP X pins D) X.xe s := by
  intro hds l hk
  induction hk with
  | nil => exact fun x w => x.on tk w
  | @cons x c ts b0 suite np hp hds l hc hsu r ih =>
    intro s A w
    obtain ⟨b, e1, yes, no⟩ := w
    obtain ⟨oe, eo, z, hf, S⟩ := A.into
    refine wpAny_handleBy_cons (codeAny_handlers_test ?_) (by intro q; cases q)
    have named : ∀ {Q : Value → Shared → Prop} {E : Value → Shared → Prop}, Q c s → wpAny (model X.prog X.w) (X.A.mark (some (.ref a))) (eval (.Name x np) X.env) Q E s := fun {Q E} q => by
      rcases hc with ⟨g, db, m | ⟨m, v, nn⟩⟩
      · exact ld_glob (X := X.suite a ((a, oe) :: (X.pn ++ pins))) S g m q db
      · exact ld_blt (X := X.suite a ((a, oe) :: (X.pn ++ pins))) S g m v q nn db
    have looks : PySem.W.Looks (model X.prog X.w) s.heap (typeOf (.ref a)) cls := fun A Q E s2 k q => wpAny_typeOf_ref (k _ _ eo) (by rw [z.1]; exact q)
    refine named ((PySem.W.exm_one (M := model X.prog X.w) A.inv.kIn looks e1).here ?_)
    cases b with
    | false =>
      show wpAny _ X.A (handleBy (.ref a) X.env hds) _ _ _
      exact ih A (no rfl)
    | true =>
      refine codeAny_handlers_suite_as (HandSPX.lands_againZ A.fl fun h2 fl2 u2 => ?_)
      have A2 := A.to fl2 u2
      obtain ⟨oe2, _, z2, hf2, S2⟩ := A2.into
      refine store_ok (X := X.suite a ((a, oe2) :: (X.pn ++ pins))) (v := .ref a) S2 hN hi (.inl hln) rfl (fun s3 S3 => ?_) (.inr hln)
      have leave : ∀ {σ4 : L2.St} {H4 : Hp} {s4 : Shared} {Q : Shared → Prop}, Inv (X.suite a ((a, oe2) :: (X.pn ++ pins))) [] σ4 H4 s4 → (∀ s5, Inv X pins (σ4.set i none) H4 s5 → Q s5) →
          wpAny (model X.prog X.w) X.A (do bindName X.env n .none; unbindBehindTheSuite X.env n hp) (fun _ s5 => Q s5) X.xe s4 := fun S4 q => gone_ok (S4.unsuite A.J.ok) hN hi hln q
      refine wpAny_mono ((hsu a oe2 cls d _ z2 hf2).run [] s3 _ H _ S3 (yes rfl a A.na)) (fun f s4 o => ?_) fun _ _ q => q.elim
      cases f with
      | ret u =>
        obtain ⟨v, σ4, H4, S4, rv, q⟩ := o
        exact leave S4 fun s5 J5 => ⟨_, _, _, J5, rv, q⟩
      | next => obtain ⟨σ4, H4, S4, q⟩ := o; exact leave S4 fun s5 J5 => ⟨_, _, J5, q⟩
      | brk => obtain ⟨σ4, H4, S4, q⟩ := o; exact leave S4 fun s5 J5 => ⟨_, _, J5, q⟩
      | cont => obtain ⟨σ4, H4, S4, q⟩ := o; exact leave S4 fun s5 J5 => ⟨_, _, J5, q⟩
variable {body : List Stmt} {h0 : ExceptHandler} {hds : List ExceptHandler} {l : List Clause} {pos : Pos} {tb : WX → TS}
theorem ps_try_asM (st : X.stack = X.env :: X.outer) (fr : X.env.frame = some X.env.locals) (hN : X.N.Nodup) (hi : X.N[i]? = some n) (hln : X.env.kindOf n = some .local) (tk : Takes X Wout)
    (hb : ∀ (W : WX) (pn : List (Addr × Obj)) (xe : Value → Shared → Prop), Takes (X.tr pn xe) W → PassesOwn (model X.prog X.w) X.A X.env xe → PSs (X.tr pn xe) body (tb W))
    (hh : HdAs X n (h0 :: hds) l) : PS X (.Try body (h0 :: hds) [] [] pos) (fun D σ H => tb (wAsM X.K i Wout D l) D σ H) := by
  refine ⟨fun pins s σ H D I h => ?_⟩
  have ok := I.ok
  refine wpAny_Try_except ?_
  have inner := hb (wAsM X.K i Wout D l) (X.pn ++ pins) (fun u s1 => wpAny (model X.prog X.w) X.A (noteFrame u X.env) (fun _ s2 => wpAny (model X.prog X.w) X.A (setFlight u none) (fun _ s3 => wpAny (model X.prog X.w) X.A (handleBy u X.env (h0 :: hds)) (SP X pins D) X.xe s3) X.xe s2) X.xe s1)
    (fun u s1 x => by
      obtain ⟨a, B, sI, p2, σ1, H1, cls, d, rfl, J, nb, up, sky, na, os, ag, w⟩ := x
      have sky2 : Sky B (X.env :: X.outer) a (Zc cls d) X.env.locals s1.heap := by rw [← st]; exact sky
      exact Sky.land Zc.steady (by rw [ok.frames, st]) fr sky2 fun h2 fl u2 => Air.clauses hN hi hln tk hh ⟨st, fr, J.ofTry ok, nb, up.trans u2, fl, na, os, ag⟩ w) PassesOwn.looking
  refine wpAny_mono (inner.run [] s σ H D (I.toTry _) h) (fun f s1 o => ?_) fun _ _ q => q
  cases f with
  | next => obtain ⟨σ1, H1, J, q⟩ := o; exact wpAny_execs_nil ⟨σ1, H1, J.ofTry ok, q⟩
  | ret u =>
    obtain ⟨v, σ1, H1, J, rv, q⟩ := o
    exact ⟨v, σ1, H1, J.ofTry ok, rv, q⟩
  | brk => obtain ⟨σ1, H1, J, q⟩ := o; exact ⟨σ1, H1, J.ofTry ok, q⟩
  | cont => obtain ⟨σ1, H1, J, q⟩ := o; exact ⟨σ1, H1, J.ofTry ok, q⟩
end
end TX

set_option Elab.async false
set_option linter.all false
set_option maxRecDepth 100000
set_option maxHeartbeats 4000000
/-! Lambdas handed on: tables kept; a def whose code object is known; siblings caught; what is known of a value's type. -/
namespace TX
open PySem PySem.Spec PyProof.Rows L2 Evl EV2 LamX
/-- except C, e of the class D: both right below S -/
theorem exm_sib {K : PySem.W.Frag} {S C D : Addr} (hD : LineOf K S D) (hC : LineOf K S C) (n : C ≠ S) : PySem.W.exmOne K (.ref D) (.ref C) = some (decide (C = D)) :=
  PySem.W.exm_ref hC.base hC.dict hC.ty (by
    show PySem.W.mroIn K D (.ref C) = some (decide (C = D))
    rw [hD.mro]
    congr 1
    by_cases e : C = D
    · subst e
      simp [List.contains_cons, ref_beq]
    · have n1 : (Value.ref C == Value.ref D) = false := by rw [ref_beq]; exact decide_eq_false e
      have n2 : (Value.ref C == Value.ref S) = false := by rw [ref_beq]; exact decide_eq_false n
      have n3 : ∀ x : String, (Value.ref C == Value.type x) = false := fun x => beq_eq_false_iff_ne.mpr fun q => by cases q
      rw [decide_eq_false e]
      simp only [BM, List.contains_cons, n1, n2, n3, List.contains_nil, Bool.or_false])
/-- tables when a pen is written -/
theorem tabS_sib {p P : Addr} {q : Str} {kv : List (Key × V)} {H H' : Hp} (hp : H p = some (.dK kv)) (e : Pen.Sib p H H') (t : TabS H P q) : TabS H' P q := by
  obtain ⟨ps, h1, h2, h3⟩ := t
  refine ⟨ps, e _ _ (ne_of h1 hp (by intro z; cases z)) h1, h2, fun pos cv hc => ?_⟩
  obtain ⟨c, e1, e2⟩ := h3 pos cv hc
  exact ⟨c, e1, e _ _ (ne_of e2 hp (by intro z; unfold CodeO at z; cases z)) e2⟩
theorem tabs_sib {p : Addr} {T : List (Addr × Str)} {kv : List (Key × V)} {H H' : Hp} (hp : H p = some (.dK kv)) (e : Pen.Sib p H H') (t : Tabs T H) : Tabs T H' := fun x hx => tabS_sib hp e (t x hx)
theorem extN_lst {H H' : Hp} {a : Addr} {xs : List V} (e : ExtN H H') (h : H a = some (.lst xs)) : H' a = some (.lst xs) := e _ _ h (fun ps z => by cases z)
theorem extN_dK {H H' : Hp} {a : Addr} {kv : List (Key × V)} (e : ExtN H H') (h : H a = some (.dK kv)) : H' a = some (.dK kv) := e _ _ h (fun ps z => by cases z)
theorem pen_extN {k1 k2 k3 : Str} {H H' : Hp} {p c : Addr} {cs : List Int} {i r : Int} (P : Pen.At k1 k2 k3 H p c cs i r) (e : ExtN H H') : Pen.At k1 k2 k3 H' p c cs i r := ⟨extN_dK e P.hp, extN_lst e P.hc, P.hl, P.h0, P.h1⟩
/-- a def whose code object stands at c -/
structure FunC (K : PySem.W.Frag) (x qual : Str) (st : Stmt) (f c : Addr) (fd : FuncData) : Prop where
  ex : ∃ (oc : Value) (od : Option Addr) (kV doc pm : Value) (an : Option Addr) (ct : Value) (osl : Array (Option Value)),
    fd = PySem.W.fnOf x qual (defArgs st) (defBody st) (defScope st) .none kV doc pm an (.ref c) ct ∧ K.lookup f = some ⟨oc, od, .func fd, osl⟩ ∧ PySem.W.codeIn K (.ref c) qual = true
  kp : PySem.W.keepIn K (.ref f) = true
section
variable {P : Program} {w : World} {K : PySem.W.Frag} {mg : Str → Option Value} {base : Heap} {x qual : Str} {st : Stmt} {f c : Addr} {fd : FuncData}
theorem FunC.toFun (F : FunC K x qual st f c fd) : Fun K x qual st f fd := by
  obtain ⟨oc, od, kV, doc, pm, an, ct, osl, e, l, q⟩ := F.ex
  exact ⟨⟨oc, od, kV, doc, pm, an, .ref c, ct, osl, e, l, q⟩, F.kp⟩
theorem FunC.ok {N ps : List Str} {k : Nat} {sp : Sp} (F : FunC K x qual st f c fd) (Sc : FnScope N ps (defScope st)) (len : ∀ vs H Q E, sp vs H Q E → vs.length = ps.length)
    (hb : ∀ (A : Around) (outer : List Env) (s : Shared) (H : Hp) (vs : List V) (Q : VK) (E : XK), Room k (A.deeper (envOfC qual (defScope st) s.heap.objs.size f (.ref c))) → sp vs H Q E →
      ∃ t, PSs (cxOf CX0 P w K mg base N qual (defScope st) f (.ref c) A outer s H E).nox (defBody st) t ∧ t { nx := fun _ H' => Q .non H', rt := Q } (start N vs) H) : FnOk P w K mg base CX0 (k + 1) f fd ps sp := by
  obtain ⟨oc, od, kV, doc, pm, an, ct, osl, rfl, l, q⟩ := F.ex
  refine fn_of l q Sc len fun A outer s H vs Q E hr hs => ?_
  obtain ⟨t, a, b⟩ := hb A outer s H vs Q E hr hs
  exact ⟨t, a.nox, b⟩
end
/-! ### kinds of values -/
def Knd (K : PySem.W.Frag) (H : Hp) (v : V) (n : String) : Prop := ∀ H1, Ex H H1 → TyX K H1 v (.type n)
section
variable {K : PySem.W.Frag} {σ : L2.St} {H : Hp} {ta tb : TE} {v : V} {n m : String} {b : Bool}
theorem Knd.ext {H' : Hp} (h : Knd K H v n) (e : Ex H H') : Knd K H' v n := fun H1 e1 => h H1 (e.trans e1)
theorem knd_int {i : Int} : Knd K H (.int i) "int" := fun _ _ => .base (.int i)
theorem knd_bl {b : Bool} : Knd K H (.bl b) "bool" := fun _ _ => .base (.bl b)
theorem knd_non : Knd K H .non "NoneType" := fun _ _ => .base .non
theorem knd_str {s : Str} : Knd K H (.str s) "str" := fun _ _ => .base (.str s)
theorem knd_lst {a : Addr} {xs : List V} (h : H a = some (.lst xs)) : Knd K H (.ref a) "list" := fun _ e => .base (.lst (e _ _ h))
theorem knd_tup {a : Addr} {xs : List V} (h : H a = some (.tup xs)) : Knd K H (.ref a) "tuple" := fun _ e => .base (.tup (e _ _ h))
theorem ev_isi (h : Knd K H v n) (hk : kitB n m = some b) (ha : Ev ta σ H v) : Ev (tCB (rIsi K) (tCons ta (tCons (tC (.ty m)) tNil))) σ H (.bl b) := fun H1 e Q q =>
  ha H1 e _ fun H2 e2 => ⟨v, .ty m, .type n, .type m, b, rfl, .ty m, h H2 (e.trans e2), kit_ty hk, q H2 e2⟩
end
end TX

set_option Elab.async false
set_option linter.all false
set_option maxRecDepth 100000
set_option maxHeartbeats 4000000
/-! Letters of columns: the numbers behind them. -/
namespace TX
open PySem PySem.Spec PyProof.Rows L2 Evl
def letsF : Nat → Nat → List Nat
  | 0, _ => []
  | _ + 1, 0 => []
  | f + 1, n + 1 => letsF f (n / 26) ++ [65 + n % 26]
def bnd : Nat → Nat
  | 0 => 1
  | f + 1 => 26 * bnd f + 1
theorem lets_zero (f : Nat) : letsF f 0 = [] := by cases f <;> rfl
theorem lets_succ (f n : Nat) : letsF (f + 1) (n + 1) = letsF f (n / 26) ++ [65 + n % 26] := rfl
theorem bnd_div {f n : Nat} (h : n + 1 < bnd (f + 1)) : n / 26 < bnd f := by
  have h2 : n + 1 < 26 * bnd f + 1 := h
  exact Nat.div_lt_of_lt_mul (by omega)
theorem lets_len : ∀ (f n : Nat), (letsF f n).length ≤ f
  | 0, _ => Nat.le_refl _
  | f + 1, 0 => Nat.zero_le _
  | f + 1, n + 1 => by
    rw [lets_succ, List.length_append]
    have := lets_len f (n / 26)
    show _ + 1 ≤ _
    omega
theorem lets_rng : ∀ (f n : Nat), ∀ x ∈ letsF f n, 65 ≤ x ∧ x ≤ 90
  | 0, _, x, h => by cases h
  | f + 1, 0, x, h => by cases h
  | f + 1, n + 1, x, h => by
    rw [lets_succ] at h
    rcases List.mem_append.mp h with h | h
    · exact lets_rng f _ x h
    · have e := List.mem_singleton.mp h
      omega
/-- what a text of capital letters stands for -/
def val (l : List Nat) : Int := l.foldl (fun a x => a * 26 + ((x - 65 : Nat) : Int) + 1) 0
theorem val_snoc (l : List Nat) (x : Nat) : val (l ++ [x]) = val l * 26 + ((x - 65 : Nat) : Int) + 1 := by
  unfold val
  rw [List.foldl_append]
  rfl
theorem val_lets : ∀ (f n : Nat), n < bnd f → val (letsF f n) = n
  | 0, n, h => by
    have h2 : n < 1 := h
    have e : n = 0 := by omega
    rw [e]
    rfl
  | f + 1, 0, _ => rfl
  | f + 1, n + 1, h => by
    rw [lets_succ, val_snoc, val_lets f (n / 26) (bnd_div h)]
    have e : 65 + n % 26 - 65 = n % 26 := by omega
    rw [e]
    omega
theorem lets_ne {f n : Nat} : letsF (f + 1) (n + 1) ≠ [] := fun e => by
  rw [lets_succ] at e
  simp at e
theorem len3 {c : Nat} (h1 : 1 ≤ c) (h2 : c ≤ 18278) : (letsF 3 c).length = 1 + (if 26 < c then 1 else 0) + (if 702 < c then 1 else 0) := by
  obtain ⟨n, rfl⟩ : ∃ n, c = n + 1 := ⟨c - 1, by omega⟩
  rw [lets_succ, List.length_append]
  show (letsF 2 (n / 26)).length + 1 = _
  rcases Nat.eq_zero_or_pos (n / 26) with e | e
  · rw [e]
    have : n < 26 := by omega
    rw [if_neg (by omega), if_neg (by omega)]
    rfl
  · obtain ⟨m, hm⟩ : ∃ m, n / 26 = m + 1 := ⟨n / 26 - 1, by omega⟩
    rw [hm, lets_succ, List.length_append]
    show (letsF 1 (m / 26)).length + 1 + 1 = _
    rw [if_pos (by omega)]
    rcases Nat.eq_zero_or_pos (m / 26) with e2 | e2
    · rw [e2, if_neg (by omega)]
      rfl
    · obtain ⟨k, hk⟩ : ∃ k, m / 26 = k + 1 := ⟨m / 26 - 1, by omega⟩
      rw [hk, lets_succ, if_pos (by omega)]
      rfl
/-- the column behind one that does not end with Z -/
theorem lets_next {f n : Nat} (h : n % 26 ≠ 25) : letsF (f + 1) (n + 2) = letsF f (n / 26) ++ [66 + n % 26] := by
  rw [lets_succ]
  have e1 : (n + 1) / 26 = n / 26 := by omega
  have e2 : 65 + (n + 1) % 26 = 66 + n % 26 := by omega
  rw [e1, e2]
end TX

set_option Elab.async false
set_option linter.all false
set_option maxRecDepth 100000
set_option maxHeartbeats 4000000
/-! A caught own error asked for its kind; ends of texts. -/
namespace TX
open PySem PySem.Spec PyProof.Rows L2 Evl EV2 LamX
/-- isinstance(e, c), e the caught error, with a dict of its own -/
def rIsF (K : PySem.W.Frag) (a : Addr) (cls : Value) (d : Option Addr) : List V → Hp → VK → Prop := fun xs H Q => ∃ (D dd : Addr) (fs : List (Str × V)) (c : V) (cv : Value) (b : Bool), cls = .ref D ∧ d = some dd ∧ ExcC K D ∧ H dd = some (.xd fs) ∧
  xs = [.ref a, c] ∧ (∀ u, RelV c u → u = cv) ∧ PySem.W.kitOne K (.ref D) cv = some b ∧ Q (.bl b) H
theorem call_isF {X : Cx} {a : Addr} {oe : Obj} {cls : Value} {d : Option Addr} {pn : List (Addr × Obj)} (hz : Zc cls d oe) (hf : ∃ vs, oe.data = .fields vs) : CallR (X.suite a ((a, oe) :: pn)) (.builtin "isinstance") (rIsF X.K a cls d) := by
  intro pins s σ H xs us Q I r h
  obtain ⟨D, dd, fs, c, cv, b, rfl, rfl, C, ed, rfl, hcv, e, q⟩ := h
  obtain ⟨u1, u2, rfl, r1, r2⟩ := vals2 r
  have ec := hcv _ r2
  subst ec
  obtain rfl : u1 = Value.ref a := r1
  obtain ⟨ha, _⟩ := I.pin (a, oe) (List.mem_append_left _ List.mem_cons_self)
  obtain ⟨vs, hd⟩ := hf
  obtain ⟨mA, hns, _⟩ := (show ObjOk X.prog X.w H s.heap dd (.xd fs) from I.hok dd _ ed)
  obtain ⟨od, ho, _⟩ := lookIn_ns hns
  have J : PySem.W.InstAt s.heap a oe D (some od) := ⟨ha, hz.1, by unfold PySem.W.notCls; rw [hd] <;> rfl, by rw [hz.2]; exact ho⟩
  exact PySem.W.kia_one (PySem.EV.kitx_err C) I.kIn J e (fun z => nomatch z) fun tk => ⟨.bl b, H, I.kept (t' := tk) fun _ _ z => z, rfl, q⟩
/-- the last sign, all but the last -/
theorem at_last (l : List Nat) (x : Nat) : atI (S (l ++ [x])).cps.toList (-1) = some x := by
  have e : (S (l ++ [x])).cps.toList = l ++ [x] := by
    show (l ++ [x]).toArray.toList = _
    simp
  rw [e]
  unfold atI ixN
  rw [if_neg (by decide)]
  have hl : (l ++ [x]).length = l.length + 1 := by simp
  rw [hl]
  rw [if_pos (by omega)]
  have e2 : (-1 + ((l.length + 1 : Nat) : Int)).toNat = l.length := by omega
  have e3 : (((l.length + 1 : Nat) : Int) + -1).toNat = l.length := by omega
  first
    | (rw [Option.bind_some, e2]; simp)
    | (rw [Option.bind_some, e3]; simp)
theorem cut_last (l : List Nat) (x : Nat) : cutS (S (l ++ [x])) none (some (-1)) = S l := by
  unfold cutS
  have e : (S (l ++ [x])).cps.toList = l ++ [x] := by
    show (l ++ [x]).toArray.toList = _
    simp
  have hl : (S (l ++ [x])).length = l.length + 1 := by rw [len_S]; simp
  rw [e, hl]
  have e1 : HT.sIx (l.length + 1) 0 none = 0 := rfl
  have e2 : HT.sIx (l.length + 1) (l.length + 1) (some (-1)) = l.length := by
    unfold HT.sIx
    simp
    try omega
  rw [e1, e2]
  simp
theorem ev_slS {σ : L2.St} {H : Hp} {te : TE} {tl th : TO} {z : Str} {lo hi : Option Int} (h : Ev te σ H (.str z)) (h1 : EvO tl σ H lo) (h2 : EvO th σ H hi) (hl : z.length ≤ 100000) : Ev (tSl rSlS te tl th) σ H (.str (cutS z lo hi)) := fun H1 e Q q =>
  h H1 e _ fun H2 e2 => h1 H2 (e.trans e2) _ fun H3 e3 => h2 H3 ((e.trans e2).trans e3) _ fun H4 e4 => ⟨z, rfl, sz_of hl, q H4 ((e2.trans e3).trans e4)⟩
end TX

set_option Elab.async false
set_option linter.all false
set_option maxRecDepth 100000
set_option maxHeartbeats 4000000
/-! Texts of ascii signs: digits, small letters, prefixes. -/
namespace TX
open PySem PySem.Spec PyProof.Rows L2 Evl EV2 LamX
def dig1 (c : Nat) : Bool := decide (48 ≤ c ∧ c ≤ 57)
def aln1 (c : Nat) : Bool := let1 c || dig1 c
theorem alnum_of : ∀ c, c < 128 → Unicode.isAlnum c = aln1 c := by decide +kernel
theorem digit_of : ∀ c, c < 128 → Unicode.isDigit c = dig1 c := by decide +kernel
theorem lower_of : ∀ c, c < 128 → Unicode.lowerOf c = [low c] := by decide +kernel
theorem all_S {f g : Nat → Bool} : ∀ {l : List Nat}, (∀ c ∈ l, f c = g c) → l.all f = l.all g
  | [], _ => rfl
  | x :: l, h => by
    rw [List.all_cons, List.all_cons, h x (List.mem_cons_self ..), all_S fun c hc => h c (List.mem_cons_of_mem _ hc)]
theorem alnum_S {l : List Nat} (h : ∀ c ∈ l, c < 128) : Txt.isalnum (S l) = (decide (0 < l.length) && l.all aln1) := by
  unfold Txt.isalnum
  rw [len_S]
  congr 1
  show l.toArray.all Unicode.isAlnum = _
  rw [List.all_toArray]
  exact all_S fun c hc => alnum_of c (h c hc)
theorem digit_S {l : List Nat} (h : ∀ c ∈ l, c < 128) : Txt.isdigit (S l) = (decide (0 < l.length) && l.all dig1) := by
  unfold Txt.isdigit
  rw [len_S]
  congr 1
  show l.toArray.all Unicode.isDigit = _
  rw [List.all_toArray]
  exact all_S fun c hc => digit_of c (h c hc)
theorem lower_S {l : List Nat} (h : ∀ c ∈ l, c < 128) : Txt.lower (S l) = S (l.map low) := by
  have e : (l.toArray.mapIdx fun i (_ : Nat) => (Unicode.lowerAt l.toArray i).toArray) = (l.map fun c => [low c].toArray).toArray := by
    apply Array.ext_getElem?
    intro i
    simp only [Array.getElem?_mapIdx, List.getElem?_toArray, List.getElem?_map]
    cases q : l[i]? with
    | none => rfl
    | some c =>
      have hc := h c (List.mem_of_getElem? q)
      have z : Unicode.lowerAt l.toArray i = [low c] := by
        unfold Unicode.lowerAt
        rw [List.getElem?_toArray, q]
        show (if (c == 0x3A3 && Unicode.endsWord l.toArray i) = true then [0x3C2] else Unicode.lowerOf c) = _
        have n : (c == 0x3A3) = false := beq_eq_false_iff_ne.mpr (by omega)
        rw [n, Bool.false_and, if_neg (by decide)]
        exact lower_of c hc
      simp [z]
  show (⟨(l.toArray.mapIdx fun i (_ : Nat) => (Unicode.lowerAt l.toArray i).toArray).flatten⟩ : Str) = _
  rw [e]
  congr 1
  apply Array.toList_inj.mp
  rw [Array.toList_flatten]
  have z : ∀ m : List Nat, ((m.map fun c => [low c].toArray).map Array.toList).flatten = m.map low := fun m => by
    induction m with
    | nil => rfl
    | cons x m ih =>
      rw [List.map_cons, List.map_cons, List.flatten_cons, ih]
      rfl
  exact z l
/-! ### sheets' names, rows -/
def sheetOk (l : List Nat) : Bool := decide (1 ≤ l.length) && decide (l.length ≤ 12) && l.all aln1 && (l.head?.map let1).getD false
def rowText (l : List Nat) : Bool := decide (1 ≤ l.length) && decide (l.length ≤ 7) && l.all dig1 && !decide (l.head? = some 48) && decide (NumText.digitsVal l ≤ 1000000)
/-- a cell's letters, whether they are fixed, its digits, whether they are -/
def cellParts (l : List Nat) : List Nat × Bool × List Nat × Bool :=
  let c := if l.head? = some 36 then l.tail else l
  let r := c.dropWhile let1
  (c.takeWhile let1, decide (l.head? = some 36), if r.head? = some 36 then r.tail else r, decide (r.head? = some 36))
section
variable {K : PySem.W.Frag} {σ : L2.St} {H : Hp} {te ta tb : TE} {l m : List Nat} {c : Nat}
theorem ev_isalnum (h : Ev te σ H (.str (S l))) (ha : ∀ c ∈ l, c < 128) : Ev (tBM0 K "str" (fun x xs H Q => ∃ a, x = .str a ∧ xs = [] ∧ True ∧ Q (.bl (Txt.isalnum a)) H) te) σ H (.bl (decide (0 < l.length) && l.all aln1)) := fun H1 e Q q =>
  h H1 e _ fun H2 e2 => ⟨rfl, S l, rfl, rfl, True.intro, by rw [alnum_S ha]; exact q H2 e2⟩
theorem ev_isdigit (h : Ev te σ H (.str (S l))) (ha : ∀ c ∈ l, c < 128) : Ev (tBM0 K "str" (fun x xs H Q => ∃ a, x = .str a ∧ xs = [] ∧ True ∧ Q (.bl (Txt.isdigit a)) H) te) σ H (.bl (decide (0 < l.length) && l.all dig1)) := fun H1 e Q q =>
  h H1 e _ fun H2 e2 => ⟨rfl, S l, rfl, rfl, True.intro, by rw [digit_S ha]; exact q H2 e2⟩
theorem toList_S (l : List Nat) : (S l).cps.toList = l := by
  show l.toArray.toList = l
  simp
/-- text[i], a written or counted place -/
theorem ev_at {i : Nat} (ha : Ev ta σ H (.str (S l))) (hb : Ev tb σ H (.int (i : Int))) (hc : l[i]? = some c) (hl : l.length ≤ 100000) : Ev (tOp rIxS ta tb) σ H (sg c) :=
  ev_op ha hb (rv_ixS (by rw [len_S]; exact hl) (by rw [toList_S]; exact atI_nat hc))
theorem sl_from {n : Nat} (l : List Nat) (h : n ≤ l.length) : cutS (S l) (some (n : Int)) none = S (l.drop n) := by
  unfold cutS
  have e1 : HT.sIx (S l).length 0 (some (n : Int)) = n := by
    rw [HT.sIx_nat, len_S]
    omega
  have e2 : HT.sIx (S l).length (S l).length none = l.length := by
    show (S l).length = _
    exact len_S l
  rw [e1, e2, toList_S]
  congr 2
  apply List.take_of_length_le
  rw [List.length_drop]
  exact Nat.le_refl _
theorem sl_to {n : Nat} (l : List Nat) (h : n ≤ l.length) : cutS (S l) none (some (n : Int)) = S (l.take n) := by
  unfold cutS
  have e1 : HT.sIx (S l).length 0 none = 0 := rfl
  have e2 : HT.sIx (S l).length (S l).length (some (n : Int)) = n := by
    rw [HT.sIx_nat, len_S]
    omega
  rw [e1, e2, toList_S]
  rfl
end
/-- '$' ahead -/
theorem sub_36 (c : Nat) (l : List Nat) : Builtin.Str.subAt (S (c :: l)) (S [36]) 0 = decide (c = 36) := by
  show ((c :: l).toArray.extract 0 (0 + 1) == [36].toArray) = decide (c = 36)
  have e : (c :: l).toArray.extract 0 (0 + 1) = [c].toArray := by simp
  rw [e]
  by_cases h : c = 36
  · subst h
    rfl
  · rw [decide_eq_false h]
    exact beq_eq_false_iff_ne.mpr fun z => h (by
      have z2 := congrArg Array.toList z
      simpa using z2)
theorem starts_36 (l : List Nat) : Txt.startswith (S l) (S [36]) = decide (l.head? = some 36) := by
  cases l with
  | nil => rfl
  | cons c l =>
    unfold Txt.startswith
    rw [sub_36, len_S, len_S]
    have h : (0 + [36].length ≤ (c :: l).length) := by simp
    rw [decide_eq_true h]
    simp
theorem strip_36 (l : List Nat) : Txt.removeprefix (S l) (S [36]) = S (if l.head? = some 36 then l.tail else l) := by
  rw [StrLaws.removeprefix_eq]
  show (if Txt.startswith (S l) (S [36]) = true then (⟨(((S l).cps.toList.drop (S [36]).length).take ((S l).length - (S [36]).length)).toArray⟩ : Str) else S l) = _
  rw [starts_36, toList_S, len_S, len_S]
  cases l with
  | nil => rfl
  | cons c l =>
    by_cases h : c = 36
    · subst h
      show (⟨((l.take (l.length + 1 - 1))).toArray⟩ : Str) = S l
      have e : l.length + 1 - 1 = l.length := by omega
      rw [e, List.take_length]
    · have n : ¬ (c :: l).head? = some 36 := fun z => h (Option.some.inj z)
      rw [decide_eq_false n, if_neg n, if_neg (by decide)]
end TX

set_option Elab.async false
set_option linter.all false
set_option maxRecDepth 100000
set_option maxHeartbeats 4000000
/-! == and != by an own __eq__, whatever it answers and whatever stands at the right. -/
namespace TX
open PySem PySem.Spec PyProof.Rows L2 Evl
/-- x == y, x an instance of the class at C whose __eq__ keeps the promise sp -/
def rEqO (K : PySem.W.Frag) (C : Addr) (sp : Sp) (E : XK) : R2 := fun x y H Q => ∃ (a dx : Addr) (fs : List (Str × V)) (t : Value), x = .ref a ∧ H a = some (.ins C dx fs) ∧ TyX K H y t ∧ PySem.W.notFirst K C t = true ∧ sp [x, y] H (fun v H' => (∃ b, v = .bl b) ∧ Q v H') E
theorem op_eqO {X : Cx} {CX : CXT} {n : Nat} {C f : Addr} {fd : FuncData} {ps : List Str} {sp : Sp} {E : XK} (F : FnOk X.prog X.w X.K X.mg X.base CX n f fd ps sp) (hs : PySem.W.findIn X.K (.ref C) "__eq__" = some (some (.ref f))) (hf : PySem.W.isFn X.K (.ref f) = true)
    (hb : Binds X.K fd ps []) (hx : Passes CX X E) (hr : Room n X.A) : OpR X (compareOp .Eq) (rEqO X.K C sp E) := by
  intro pins s σ H x y v u Q I rx ry hq
  obtain ⟨a, dx, fs, t, rfl, ha, ty, hn, hsp⟩ := hq
  obtain rfl : v = Value.ref a := rx
  obtain ⟨mA, J, _⟩ := ins_get I.hok ha
  obtain ⟨od, J, _⟩ := J.look
  obtain ⟨Pz, Z, pz, _⟩ := kit_of I ry ty
  obtain ⟨m, hF⟩ := I.fr
  show wpAny (model X.prog X.w) X.A (richCompare .Eq (.ref a) u) (EP X pins σ Q) X.xe s
  refine PySem.W.cmp_K (op := .Eq) (tb := t) hr.units0 hF I.ok.mod.kin J (Z.ty _ _ I.kIn pz) hn hs hf ?_
  refine wpAny_mono (run_fn (vs := [V.ref a, y]) (dvs := []) F hr hb .nil hx I (show Vals [V.ref a, y] [Value.ref a, u] from .cons rfl (.cons ry .nil)) hsp) (fun w s1 o => ?_) fun _ _ q => q
  obtain ⟨z, H1, I1, rz, ⟨b, ez⟩, q⟩ := o
  subst ez
  obtain rfl : w = Value.bool b := rz
  exact ⟨.bl b, H1, I1, rfl, q⟩
end TX
namespace TX
open PySem PySem.Spec PyProof.Rows L2 Evl
theorem ns_some_of {K : PySem.W.Frag} {h : Heap} {N : Addr} {mg : Str → Option Value} {n : Str} {v : Value} (X : K.In h) (G : h.Ns N mg) (e : PySem.W.nsIn K N n = some (some v)) : mg n = some v := by
  obtain ⟨o, es, ep, ho, hd, _, hf⟩ := G
  unfold PySem.W.nsIn at e
  split at e
  · rename_i q
    have z := X _ _ q
    rw [ho] at z
    cases z
    cases hd
    split at e
    · rename_i en he
      rw [← hf]
      unfold nsFind findBy
      rw [← Array.find?_toList, he]
      exact Option.some.inj e
    · split at e <;> cases e
  · cases e
/-- a plain class with an own __eq__ and no __ne__: N its names' table -/
structure EqC (K : PySem.W.Frag) (C N f : Addr) : Prop where
  line : ∃ (nm q : Str) (bs : List Value) (hdct : Bool) (sn : List Str) (sub : List Value) (ab : Bool) (col : Option Bool) (dd : Option Addr) (k0 k1 k2 k3 k5 : Option Value) (newId : String), K.lookup C = some (excClassObj nm q C N bs [.type "object"] hdct sn sub ab col dd k0 k1 k2 k3 k5 newId)
  ok : PySem.W.nsOkIn K N = true
  eq : PySem.W.nsIn K N "__eq__" = some (some (.ref f))
  ne : PySem.W.nsIn K N "__ne__" = some none
  fn : ∃ of, K.lookup f = some of ∧ of.cls = .type "function"
/-- x != y, both instances of that class -/
def rNeO (C : Addr) (sp : Sp) (E : XK) : R2 := fun x y H Q => ∃ (a b dx dy : Addr) (fs gs : List (Str × V)), x = .ref a ∧ y = .ref b ∧ H a = some (.ins C dx fs) ∧ H b = some (.ins C dy gs) ∧ sp [x, y] H (fun v H' => ∃ b, v = .bl b ∧ Q (.bl (!b)) H') E
theorem op_neO {X : Cx} {CX : CXT} {n : Nat} {C N f : Addr} {fd : FuncData} {ps : List Str} {sp : Sp} {E : XK} {yB : Option Value} (F : FnOk X.prog X.w X.K X.mg X.base CX n f fd ps sp) (e : EqC X.K C N f) (hB : typeLookup (.type "object") ("__eq__" : Str) = pure yB)
    (hb : Binds X.K fd ps []) (hx : Passes CX X E) (hr : Room (n + 1) X.A) : OpR X (compareOp .NotEq) (rNeO C sp E) := by
  intro pins s σ H x y v u Q I rx ry hq
  obtain ⟨a, b, dx, dy, fs, gs, rfl, rfl, ha, hb2, hsp⟩ := hq
  obtain rfl : v = Value.ref a := rx
  obtain rfl : u = Value.ref b := ry
  obtain ⟨mA, J, _⟩ := ins_get I.hok ha
  obtain ⟨mB, J2, _⟩ := ins_get I.hok hb2
  obtain ⟨od, J, _⟩ := J.look
  obtain ⟨od2, J2, _⟩ := J2.look
  obtain ⟨nm, q, bs, hdct, sn, sub, ab, col, dd, k0, k1, k2, k3, k5, newId, hC⟩ := e.line
  obtain ⟨of, hof, hfc⟩ := e.fn
  have KX := I.kIn
  have G : s.heap.Ns N (s.heap.nsMap N) := .of_isNs (PySem.W.isNs_of_in KX e.ok)
  have Y : s.heap.OwnEqNoNe a C f "object" [.type "object"] :=
    ⟨_, of, nm, q, N, bs, hdct, sn, sub, ab, col, dd, k0, k1, k2, k3, k5, newId, s.heap.nsMap N, yB, J.at_, J.cls, KX _ _ hC, G, ns_some_of KX G e.eq, KX _ _ hof, hfc, PySem.F.mro_object, hB, PySem.W.ns_none_of KX G e.ne⟩
  have i0 := I.env0
  have e0 : Env0 X.prog X.w X.K X.mg X.base X.A.in1 X.stack s H := ⟨i0.frames, i0.mod, i0.bs, i0.bsz, i0.funs, i0.frf, i0.hok, i0.bare⟩
  have r2 : Vals [V.ref a, V.ref b] [Value.ref a, Value.ref b] := .cons rfl (.cons rfl .nil)
  have hl := F.len _ _ _ _ hsp
  have hcall : wpAny (model X.prog X.w) X.A.in1 (call (.ref f) [.ref a, .ref b]) (fun v s' => ∃ b, v = .bool b ∧ EP X pins σ Q (.bool (!b)) s') X.xe s := by
    refine wpAny_call (codeAny_mono (F.run X.A.in1 X.stack s H ⟨[.ref a, .ref b], []⟩ [.ref a, .ref b] [.ref a, .ref b] _ E hr.in1 e0 (by
      have z := hb s [.ref a, .ref b] I.kIn (by simpa using hl)
      simpa using z) r2 hsp) fun r s1 o => ?_)
    cases r with
    | error ex => exact hx pins σ H s ex s1 I o
    | ok fl =>
      cases fl with
      | ret w =>
        obtain ⟨z, H1, I1, rz, ⟨b, ez, q⟩⟩ := I.after o
        subst ez
        obtain rfl : w = Value.bool b := rz
        exact ⟨b, rfl, .bl (!b), H1, I1, rfl, q⟩
      | next => exact o.elim
      | brk => exact o.elim
      | cont => exact o.elim
  have hu : X.A.units + 1 < cLine := hu_of hr
  obtain ⟨hp, g, d, t, os⟩ := s
  exact compareOp_ne_ownEq PySem.F.cmp_object Y J2.at_ J2.cls hu hcall
end TX

set_option Elab.async false
set_option linter.all false
set_option maxRecDepth 100000
set_option maxHeartbeats 4000000
/-! text.rpartition(sign). -/
namespace TX
open PySem PySem.Spec PyProof.Rows L2 Evl
theorem mt_rpartition {X : Cx} : MtR X "str.rpartition" (fun x xs H Q => ∃ a b, x = .str a ∧ xs = [.str b] ∧ (b.length == 0) = false ∧ a.length ≤ sizeLine ∧
    ∀ p, H p = none → Q (.ref p) (upd H p (.tup [.str (Txt.rpartition a b).1, .str (Txt.rpartition a b).2.1, .str (Txt.rpartition a b).2.2]))) := by
  intro pins s σ H x xs v us Q I rx rs h
  obtain ⟨a, b, rfl, rfl, hb, hz, h⟩ := h
  obtain ⟨t, rfl⟩ := rx
  cases rs with
  | cons r1 rs =>
    cases rs
    obtain ⟨u, rfl⟩ := r1
    refine call_meets F.slot_str_rpartition (typeIs_str _ _ _) F.entry_str_rpartition (F.args_str_rpartition_2 _ _) (meets_str_rpartition a b t u hb hz) ?_
    unfold Txt.rpartition at h
    revert h
    cases Builtin.Str.lastOccurrence a b 0 a.length with
    | none => intro h; exact laid_parts I h
    | some i => intro h; exact laid_parts I h
def lastBang : List Nat → Option (List Nat × List Nat)
  | [] => none
  | c :: r => match lastBang r with
    | some (a, b) => some (c :: a, b)
    | none => if c = 33 then some ([], r) else none
theorem bang_none : ∀ {l : List Nat}, lastBang l = none → 33 ∉ l
  | [], _, h => by cases h
  | c :: r, e, h => by
    unfold lastBang at e
    cases q : lastBang r with
    | some p => rw [q] at e; cases e
    | none =>
      rw [q] at e
      have n : ¬ c = 33 := fun z => by
        rw [if_pos z] at e
        cases e
      rcases List.mem_cons.mp h with z | z
      · exact n z.symm
      · exact bang_none q z
theorem bang_some : ∀ {l a b : List Nat}, lastBang l = some (a, b) → l = a ++ 33 :: b ∧ 33 ∉ b
  | [], a, b, e => by cases e
  | c :: r, a, b, e => by
    unfold lastBang at e
    cases q : lastBang r with
    | some p =>
      obtain ⟨a2, b2⟩ := p
      rw [q] at e
      cases e
      obtain ⟨h1, h2⟩ := bang_some q
      exact ⟨by rw [h1]; rfl, h2⟩
    | none =>
      rw [q] at e
      by_cases z : c = 33
      · have e2 : (if c = 33 then some (([] : List Nat), r) else none) = some (a, b) := e
        rw [if_pos z] at e2
        cases e2
        exact ⟨by rw [z]; rfl, bang_none q⟩
      · have e2 : (if c = 33 then some (([] : List Nat), r) else none) = some (a, b) := e
        rw [if_neg z] at e2
        cases e2
theorem at_33 (l : List Nat) (i : Nat) : StrLaws.At (S l) (S [33]) (S l).length i ↔ l[i]? = some 33 := by
  have hx : ∀ j, ((S l).cps.extract j (j + (S [33]).length)).toList = (l.drop j).take 1 := fun j => by
    have z := StrLaws.strSub_toList (S l) j (j + (S [33]).length)
    rw [toList_S] at z
    have e : j + (S [33]).length - j = 1 := by
      rw [len_S]
      simp
    rw [e] at z
    exact z
  unfold StrLaws.At
  rw [len_S, len_S]
  constructor
  · intro ⟨h1, h2⟩
    have h3 : (S l).cps.extract i (i + (S [33]).length) = (S [33]).cps := eq_of_beq h2
    have h4 := congrArg Array.toList h3
    rw [hx] at h4
    have h5 : (l.drop i).take 1 = [33] := h4
    have h6 : i < l.length := h1
    have h7 : (l[i] :: l.drop (i + 1)).take 1 = [33] := by
      rw [← List.drop_eq_getElem_cons h6]
      exact h5
    have h8 : [l[i]] = [33] := h7
    rw [List.getElem?_eq_getElem h6]
    rw [List.cons.inj h8 |>.1]
  · intro h
    have h6 : i < l.length := (List.getElem?_eq_some_iff.mp h).1
    refine ⟨h6, ?_⟩
    show ((S l).cps.extract i (i + (S [33]).length) == (S [33]).cps) = true
    refine beq_iff_eq.mpr (Array.toList_inj.mp ?_)
    rw [hx, List.drop_eq_getElem_cons h6]
    rw [List.getElem?_eq_getElem h6] at h
    have h7 := Option.some.inj h
    rw [h7]
    rfl
theorem sub_S (l : List Nat) (i j : Nat) : Builtin.Str.strSub (S l) i j = S ((l.drop i).take (j - i)) := by
  have z := StrLaws.mk_of_toList (StrLaws.strSub_toList (S l) i j)
  rw [toList_S] at z
  exact z
theorem rpart_S (l : List Nat) : Txt.rpartition (S l) (S [33]) = match lastBang l with
    | none => (Str.empty, Str.empty, S l)
    | some (a, b) => (S a, S [33], S b) := by
  unfold Txt.rpartition
  cases q : lastBang l with
  | none =>
    rcases StrLaws.last_spec (S l) (S [33]) with ⟨e, _⟩ | ⟨i, e, h, _⟩
    · rw [e]
    · exact absurd (List.mem_of_getElem? ((at_33 l i).mp h)) (bang_none q)
  | some p =>
    obtain ⟨a, b⟩ := p
    obtain ⟨h1, h2⟩ := bang_some q
    have ha : l[a.length]? = some 33 := by
      rw [h1]
      simp
    rcases StrLaws.last_spec (S l) (S [33]) with ⟨_, h⟩ | ⟨i, e, h, hn⟩
    · exact absurd ((at_33 l _).mpr ha) (h _)
    · have hi := (at_33 l i).mp h
      have ei : i = a.length := by
        rcases Nat.lt_trichotomy i a.length with c | c | c
        · exact absurd ((at_33 l _).mpr ha) (hn _ c)
        · exact c
        · exfalso
          rw [h1, List.getElem?_append_right (by omega)] at hi
          have e2 : i - a.length = (i - a.length - 1) + 1 := by omega
          rw [e2, List.getElem?_cons_succ] at hi
          exact h2 (List.mem_of_getElem? hi)
      rw [e, ei]
      show (Builtin.Str.strSub (S l) 0 a.length, S [33], Builtin.Str.strSub (S l) (a.length + (S [33]).length) (S l).length) = (S a, S [33], S b)
      rw [sub_S, sub_S, len_S, len_S]
      have z1 : (l.drop 0).take (a.length - 0) = a := by
        rw [h1]
        simp
      have z2 : (l.drop (a.length + [33].length)).take (l.length - (a.length + [33].length)) = b := by
        rw [h1]
        simp
        have n : a.length + (b.length + 1) - (a.length + 1) = b.length := by omega
        rw [n, List.take_length]
      rw [z1, z2]
def firstBang : List Nat → Option (List Nat × List Nat)
  | [] => none
  | c :: r => if c = 33 then some ([], r) else match firstBang r with
    | some (a, b) => some (c :: a, b)
    | none => none
theorem fbang_none : ∀ {l : List Nat}, firstBang l = none → 33 ∉ l
  | [], _, h => by cases h
  | c :: r, e, h => by
    unfold firstBang at e
    by_cases z : c = 33
    · rw [if_pos z] at e
      cases e
    · rw [if_neg z] at e
      cases q : firstBang r with
      | some p => rw [q] at e; cases e
      | none =>
        rcases List.mem_cons.mp h with y | y
        · exact z y.symm
        · exact fbang_none q y
theorem fbang_some : ∀ {l a b : List Nat}, firstBang l = some (a, b) → l = a ++ 33 :: b ∧ 33 ∉ a
  | [], a, b, e => by cases e
  | c :: r, a, b, e => by
    unfold firstBang at e
    by_cases z : c = 33
    · rw [if_pos z] at e
      cases e
      exact ⟨by rw [z]; rfl, fun h => by cases h⟩
    · rw [if_neg z] at e
      cases q : firstBang r with
      | some p =>
        obtain ⟨a2, b2⟩ := p
        rw [q] at e
        cases e
        obtain ⟨h1, h2⟩ := fbang_some q
        refine ⟨by rw [h1]; rfl, fun h => ?_⟩
        rcases List.mem_cons.mp h with y | y
        · exact z y.symm
        · exact h2 y
      | none => rw [q] at e; cases e
theorem part_S (l : List Nat) : Txt.partition (S l) (S [33]) = match firstBang l with
    | none => (S l, Str.empty, Str.empty)
    | some (a, b) => (S a, S [33], S b) := by
  unfold Txt.partition
  rcases StrLaws.occ_head (S l) (S [33]) 1 (Nat.le_refl _) with ⟨e, h⟩ | ⟨i, r, e, h, hn⟩
  · cases q : firstBang l with
    | none => rw [e]
    | some p =>
      obtain ⟨a, b⟩ := p
      obtain ⟨h1, _⟩ := fbang_some q
      have ha : l[a.length]? = some 33 := by
        rw [h1]
        simp
      exact absurd ((at_33 l _).mpr ha) (h _)
  · have hi := (at_33 l i).mp h
    cases q : firstBang l with
    | none => exact absurd (List.mem_of_getElem? hi) (fbang_none q)
    | some p =>
      obtain ⟨a, b⟩ := p
      obtain ⟨h1, h2⟩ := fbang_some q
      have ha : l[a.length]? = some 33 := by
        rw [h1]
        simp
      have ei : i = a.length := by
        rcases Nat.lt_trichotomy i a.length with c | c | c
        · exfalso
          rw [h1, List.getElem?_append_left c] at hi
          exact h2 (List.mem_of_getElem? hi)
        · exact c
        · exact absurd ((at_33 l _).mpr ha) (hn _ c)
      rw [e, ei]
      show (Builtin.Str.strSub (S l) 0 a.length, S [33], Builtin.Str.strSub (S l) (a.length + (S [33]).length) (S l).length) = (S a, S [33], S b)
      rw [sub_S, sub_S, len_S, len_S]
      have z1 : (l.drop 0).take (a.length - 0) = a := by
        rw [h1]
        simp
      have z2 : (l.drop (a.length + [33].length)).take (l.length - (a.length + [33].length)) = b := by
        rw [h1]
        simp
        have n : a.length + (b.length + 1) - (a.length + 1) = b.length := by omega
        rw [n, List.take_length]
      rw [z1, z2]
end TX

set_option Elab.async false
set_option linter.all false
set_option maxRecDepth 100000
set_option maxHeartbeats 4000000
/-! Lists of values with a property, odd values as data. -/
namespace TX
open PySem PySem.Spec PyProof.Rows L2 Pen EV2 Evl LamX
theorem strOk_S {l : List Nat} (h : ∀ c ∈ l, c < 128) : PyData.strOk (S l) = true := by
  show l.toArray.all (fun c => decide (c < 0x110000)) = true
  rw [List.all_toArray]
  exact List.all_eq_true.mpr fun c hc => decide_eq_true (by have := h c hc; omega)
end TX
namespace TX
open PySem PySem.Spec PyProof.Rows L2 Pen EV2 Evl LamX
/-- what is made has the property P, which stays -/
def EvP (P : Hp → V → Prop) (te : TE) (σ : L2.St) (H : Hp) : Prop := ∀ H1, Ex H H1 → ∀ Q : VK, (∀ v H2, Ex H1 H2 → P H2 v → Q v H2) → te σ H1 Q
def EvPs (P : Hp → V → Prop) (ta : TA) (σ : L2.St) (H : Hp) (n : Nat) : Prop := ∀ H1, Ex H H1 → ∀ Q : List V → Hp → Prop, (∀ vs H2, Ex H1 H2 → vs.length = n → (∀ v ∈ vs, P H2 v) → Q vs H2) → ta σ H1 Q
section
variable {P : Hp → V → Prop} {σ : L2.St} {H : Hp} {te : TE} {tr : TA} {v x : V}
theorem ep_v (h : Ev te σ H v) (p : ∀ H, P H v) : EvP P te σ H := fun H1 e Q q => h H1 e _ fun H2 e2 => q v H2 e2 (p H2)
theorem ep_lst (h : Ev te σ H x) (p : ∀ a H, H a = some (.lst [x]) → P H (.ref a)) : EvP P (tLst (tCons te tNil)) σ H := fun H1 e Q q => h H1 e _ fun H2 e2 => ⟨by show 1 ≤ sizeLine; decide, fun a ha => q _ _ (e2.trans (Ex.new ha)) (p a _ upd_same)⟩
theorem ep_tup (h : Ev te σ H x) (p : ∀ a H, H a = some (.tup [x]) → P H (.ref a)) : EvP P (tTup (tCons te tNil)) σ H := fun H1 e Q q => h H1 e _ fun H2 e2 => ⟨by show 1 ≤ sizeLine; decide, fun a ha => q _ _ (e2.trans (Ex.new ha)) (p a _ upd_same)⟩
theorem eps_nil : EvPs P tNil σ H 0 := fun H1 _ Q q => q [] H1 (Ex.refl H1) rfl fun v hv => by cases hv
theorem eps_cons {n : Nat} (st : ∀ H H' v, Ex H H' → P H v → P H' v) (h : EvP P te σ H) (hr : EvPs P tr σ H n) : EvPs P (tCons te tr) σ H (n + 1) := fun H1 e Q q =>
  h H1 e _ fun v H2 e2 g => hr H2 (e.trans e2) _ fun vs H3 e3 hl hg => q (v :: vs) H3 (e2.trans e3) (by rw [List.length_cons, hl]) fun u hu => by
    rcases List.mem_cons.mp hu with z | z
    · rw [z]
      exact st _ _ _ e3 g
    · exact hg u z
theorem rd_ps {n : Nat} {Q : VK} (st : ∀ H H' v, Ex H H' → P H v → P H' v) (h : EvPs P tr σ H n) (hz : n ≤ 100000) (q : ∀ l vs H2, H l = none → Ex H H2 → H2 l = some (.lst vs) → vs.length = n → (∀ v ∈ vs, P H2 v) → Q (.ref l) H2) : tLst tr σ H Q :=
  h H (Ex.refl H) _ fun vs H2 e2 hl hg => ⟨sz_of (by omega), fun p hp => q p vs _ (fresh_back e2 hp) (e2.trans (Ex.new hp)) upd_same hl fun v hv => st _ _ _ (Ex.new hp) (hg v hv)⟩
end
/-- plain values, lists and tuples of one plain value -/
inductive Bx : V → PyData → Prop
  | int (i : Int) : Bx (.int i) (.int i)
  | str (s : Str) : PyData.strOk s = true → Bx (.str s) (.str s)
inductive Vd (H : Hp) : V → PyData → String → Prop
  | int (i : Int) : Vd H (.int i) (.int i) "int"
  | bl (b : Bool) : Vd H (.bl b) (.bool b) "bool"
  | non : Vd H .non .none "NoneType"
  | str (s : Str) : PyData.strOk s = true → Vd H (.str s) (.str s) "str"
  | lst {a : Addr} {x : V} {d : PyData} : H a = some (.lst [x]) → Bx x d → Vd H (.ref a) (.list [d]) "list"
  | tup {a : Addr} {x : V} {d : PyData} : H a = some (.tup [x]) → Bx x d → Vd H (.ref a) (.tuple [d]) "tuple"
theorem Vd.keep {H H' : Hp} {v : V} {d : PyData} {n : String} (h1 : ∀ a xs, H a = some (.lst xs) → H' a = some (.lst xs)) (h2 : ∀ a xs, H a = some (.tup xs) → H' a = some (.tup xs)) (g : Vd H v d n) : Vd H' v d n := by
  cases g with
  | int i => exact .int i
  | bl b => exact .bl b
  | non => exact .non
  | str s h => exact .str s h
  | lst e b => exact .lst (h1 _ _ e) b
  | tup e b => exact .tup (h2 _ _ e) b
section
variable {K : PySem.W.Frag} {H : Hp} {v x : V} {d : PyData} {n : String}
theorem Vd.ext {H' : Hp} (e : Ex H H') (g : Vd H v d n) : Vd H' v d n := g.keep (fun _ _ h => e _ _ h) fun _ _ h => e _ _ h
theorem Vd.sib {H' : Hp} {p : Addr} {kv : List (Key × V)} (hp : H p = some (.dK kv)) (e : Pen.Sib p H H') (g : Vd H v d n) : Vd H' v d n := g.keep (fun _ _ h => e _ _ (ne_of h hp (by intro z; cases z)) h) fun _ _ h => e _ _ (ne_of h hp (by intro z; cases z)) h
theorem Vd.extN {H' : Hp} (e : ExtN H H') (g : Vd H v d n) : Vd H' v d n := g.keep (fun _ _ h => e _ _ h (fun _ z => by cases z)) fun _ _ h => e _ _ h (fun _ z => by cases z)
theorem Vd.knd (g : Vd H v d n) : Knd K H v n := by
  cases g with
  | int i => exact knd_int
  | bl b => exact knd_bl
  | non => exact knd_non
  | str s h => exact knd_str
  | lst e b => exact knd_lst e
  | tup e b => exact knd_tup e
theorem Bx.dp (b : Bx x d) : Dp K H x d := by
  cases b with
  | int i => exact .int i
  | str s h => exact .str s
theorem Bx.ok (b : Bx x d) : PyData.canLay0 d = true ∧ PyData.depth d = 0 ∧ PyData.eqv d d = true := by
  cases b with
  | int i => exact ⟨rfl, rfl, by show (i == i) = true; simp⟩
  | str s h => exact ⟨h, rfl, by show (s == s) = true; simp⟩
theorem Vd.dp (g : Vd H v d n) : Dp K H v d := by
  cases g with
  | int i => exact .int i
  | bl b => exact .bl b
  | non => exact .non
  | str s h => exact .str s
  | lst e b => exact .lst (sq_of e) (.cons b.dp .nil)
  | tup e b => exact .tup (st_of e) (.cons b.dp .nil)
theorem Vd.ok (g : Vd H v d n) : PyData.canLay0 d = true ∧ PyData.depth d ≤ 1 ∧ PyData.eqv d d = true := by
  cases g with
  | int i => exact ⟨rfl, by show 0 ≤ 1; decide, by show (i == i) = true; simp⟩
  | bl b => exact ⟨rfl, by show 0 ≤ 1; decide, by cases b <;> rfl⟩
  | non => exact ⟨rfl, by show 0 ≤ 1; decide, rfl⟩
  | str s h => exact ⟨h, by show 0 ≤ 1; decide, by show (s == s) = true; simp⟩
  | @lst a x d e b =>
    obtain ⟨h1, h2, h3⟩ := b.ok
    refine ⟨?_, ?_, ?_⟩
    · show (PyData.canLay0 d && true) = true
      rw [h1]
      rfl
    · show max (PyData.depth d) 0 + 1 ≤ 1
      omega
    · show (PyData.eqv d d && true) = true
      rw [h3]
      rfl
  | @tup a x d e b =>
    obtain ⟨h1, h2, h3⟩ := b.ok
    refine ⟨?_, ?_, ?_⟩
    · show (PyData.canLay0 d && true) = true
      rw [h1]
      rfl
    · show max (PyData.depth d) 0 + 1 ≤ 1
      omega
    · show (PyData.eqv d d && true) = true
      rw [h3]
      rfl
end
end TX

set_option Elab.async false
set_option linter.all false
set_option maxRecDepth 100000
set_option maxHeartbeats 4000000
/-! Tuples that are made or there already; slices of texts and tuples from a counted place. -/
namespace TX
open PySem PySem.Spec PyProof.Rows L2 Pen EV2 Evl LamX
/-- evaluates to a tuple of these, new or not -/
def EvR (te : TE) (σ : L2.St) (H : Hp) (xs : List V) : Prop := ∀ H1, Ex H H1 → ∀ Q : VK, (∀ a H2, Ex H1 H2 → H2 a = some (.tup xs) → Q (.ref a) H2) → te σ H1 Q
section
variable {K : PySem.W.Frag} {σ : L2.St} {H H' : Hp} {ta tb te : TE} {xs ys : List V} {a : Addr} {lo hi : Option Int} {tl th : TO}
theorem EvR.mono (e : Ex H H') (h : EvR te σ H xs) : EvR te σ H' xs := fun H1 a Q q => h H1 (e.trans a) Q q
theorem er_of (h : Ev te σ H (.ref a)) (ha : H a = some (.tup xs)) : EvR te σ H xs := fun H1 e Q q => h H1 e _ fun H2 e2 => q a H2 e2 ((e.trans e2) _ _ ha)
theorem er_new (h : EvU te σ H xs) : EvR te σ H xs := fun H1 e Q q => h H1 e _ fun p H2 _ e2 hp => q p H2 e2 hp
theorem er_sl (h : EvR te σ H xs) (h1 : EvO tl σ H lo) (h2 : EvO th σ H hi) : EvR (tSl (rSlA K) te tl th) σ H (cutV xs lo hi) := fun H1 e Q q =>
  h H1 e _ fun a H2 e2 ha => h1 H2 (e.trans e2) _ fun H3 e3 => h2 H3 ((e.trans e2).trans e3) _ fun H4 e4 => ⟨a, xs, rfl, st_of ((e3.trans e4) _ _ ha), fun hw => by
    refine q a H4 ((e2.trans e3).trans e4) ?_
    have z : cutV xs lo hi = xs := by
      unfold cutV
      rw [hw.1, hw.2]
      simp
    rw [z]
    exact (e3.trans e4) _ _ ha, fun _ p hp => q p _ (((e2.trans e3).trans e4).trans (Ex.new hp)) upd_same⟩
theorem er_cat (ha : EvR ta σ H xs) (hb : EvR tb σ H ys) (hl : xs.length + ys.length ≤ 100000) : EvR (tOp (rCatA K) ta tb) σ H (xs ++ ys) := fun H1 e Q q =>
  ha H1 e _ fun a H2 e2 h2 => hb H2 (e.trans e2) _ fun b H3 e3 h3 => ⟨a, b, xs, ys, rfl, rfl, st_of (e3 _ _ h2), st_of h3, sz_of hl, fun z => by
    rw [z, List.nil_append] at q
    exact q b H3 (e2.trans e3) h3, fun _ z => by
    rw [z, List.append_nil] at q
    exact q a H3 (e2.trans e3) (e3 _ _ h2), fun _ _ p hp => q p _ ((e2.trans e3).trans (Ex.new hp)) upd_same⟩
theorem cutV_to {n : Nat} (xs : List V) : cutV xs none (some (n : Int)) = xs.take n := by
  unfold cutV
  rw [HT.sIx_nat]
  have e1 : HT.sIx xs.length 0 none = 0 := rfl
  rw [e1, List.drop_zero, Nat.sub_zero, ← List.take_take, List.take_length]
theorem cutV_from {n : Nat} (xs : List V) : cutV xs (some (n : Int)) none = xs.drop n := by
  unfold cutV
  rw [HT.sIx_nat]
  have e2 : HT.sIx xs.length xs.length none = xs.length := rfl
  rw [e2]
  by_cases h : n ≤ xs.length
  · rw [Nat.min_eq_left h]
    exact List.take_of_length_le (by rw [List.length_drop]; exact Nat.le_refl _)
  · rw [Nat.min_eq_right (by omega), List.drop_of_length_le (Nat.le_refl _), List.drop_of_length_le (by omega)]
    simp
theorem sl_fromA {n : Nat} (l : List Nat) : cutS (S l) (some (n : Int)) none = S (l.drop n) := by
  by_cases h : n ≤ l.length
  · exact sl_from l h
  · unfold cutS
    have e1 : HT.sIx (S l).length 0 (some (n : Int)) = l.length := by
      rw [HT.sIx_nat, len_S]
      omega
    have e2 : HT.sIx (S l).length (S l).length none = l.length := by
      show (S l).length = _
      exact len_S l
    rw [e1, e2, toList_S, List.drop_of_length_le (Nat.le_refl _), List.drop_of_length_le (by omega), List.take_nil]
theorem q_retR {D : Ends} (h : EvR te σ H xs) (k : ∀ a H1, Ex H H1 → H1 a = some (.tup xs) → D.rt (.ref a) H1) : tRet te D σ H := h H (Ex.refl H) _ k
end
end TX

set_option Elab.async false
set_option linter.all false
set_option maxRecDepth 100000
set_option maxHeartbeats 4000000
/-! What a term leads to, told by a relation that stays; displays of such terms. -/
namespace TX
open PySem PySem.Spec PyProof.Rows L2 Evl
/-- a relation that stays as the heap grows -/
def MonR (R : V → Hp → Prop) : Prop := ∀ v H H', Ex H H' → R v H → R v H'
def MonL (R : List V → Hp → Prop) : Prop := ∀ v H H', Ex H H' → R v H → R v H'
def EvQ (te : TE) (σ : L2.St) (H : Hp) (R : V → Hp → Prop) : Prop := ∀ H1, Ex H H1 → ∀ Q : VK, (∀ v H2, Ex H1 H2 → R v H2 → Q v H2) → te σ H1 Q
def EvAQ (ta : TA) (σ : L2.St) (H : Hp) (R : List V → Hp → Prop) : Prop := ∀ H1, Ex H H1 → ∀ Q : List V → Hp → Prop, (∀ v H2, Ex H1 H2 → R v H2 → Q v H2) → ta σ H1 Q
section
variable {σ : L2.St} {H H' : Hp} {te : TE} {ta : TA} {R : V → Hp → Prop} {S S' : List V → Hp → Prop} {v : V}
theorem EvQ.mono (h : EvQ te σ H R) (e : Ex H H') : EvQ te σ H' R := fun H1 e1 Q q => h H1 (e.trans e1) Q q
theorem EvAQ.mono (h : EvAQ ta σ H S) (e : Ex H H') : EvAQ ta σ H' S := fun H1 e1 Q q => h H1 (e.trans e1) Q q
theorem EvQ.to {R' : V → Hp → Prop} (h : EvQ te σ H R) (k : ∀ v H', Ex H H' → R v H' → R' v H') : EvQ te σ H R' := fun H1 e1 Q q => h H1 e1 Q fun v H2 e2 r => q v H2 e2 (k v H2 (e1.trans e2) r)
theorem evq_of (h : Ev te σ H v) : EvQ te σ H (fun u _ => u = v) := fun H1 e Q q => h H1 e _ fun H2 e2 => q v H2 e2 rfl
theorem ev_of_q (h : EvQ te σ H (fun u _ => u = v)) : Ev te σ H v := fun H1 e Q q => h H1 e _ fun u H2 e2 r => by
  subst r
  exact q H2 e2
theorem eaq_nil : EvAQ tNil σ H (fun vs _ => vs = []) := fun H1 _ Q q => q [] H1 (Ex.refl H1) rfl
theorem eaq_cons (hv : EvQ te σ H R) (hr : EvAQ ta σ H S) (m : MonR R) : EvAQ (tCons te ta) σ H (fun vs H' => ∃ v ws, vs = v :: ws ∧ R v H' ∧ S ws H') := fun H1 e Q q =>
  hv H1 e _ fun v H2 e2 r => hr H2 (e.trans e2) _ fun ws H3 e3 s => q (v :: ws) H3 (e2.trans e3) ⟨v, ws, rfl, m _ _ _ e3 r, s⟩
theorem eaq_of {vs : List V} (h : EvA ta σ H vs) : EvAQ ta σ H (fun u _ => u = vs) := fun H1 e Q q => h H1 e _ fun H2 e2 => q vs H2 e2 rfl
theorem evq_tup (h : EvAQ ta σ H S) (hl : ∀ vs H', S vs H' → vs.length ≤ 100000) (m : MonL S) : EvQ (tTup ta) σ H (fun v H' => ∃ p vs, v = .ref p ∧ H' p = some (.tup vs) ∧ S vs H') := fun H1 e Q q =>
  h H1 e _ fun vs H2 e2 s => ⟨sz_of (hl vs H2 s), fun p np => q (.ref p) _ (e2.trans (Ex.new np)) ⟨p, vs, rfl, upd_same, m _ _ _ (Ex.new np) s⟩⟩
theorem evq_lst (h : EvAQ ta σ H S) (hl : ∀ vs H', S vs H' → vs.length ≤ 100000) (m : MonL S) : EvQ (tLst ta) σ H (fun v H' => ∃ p vs, v = .ref p ∧ H' p = some (.lst vs) ∧ S vs H') := fun H1 e Q q =>
  h H1 e _ fun vs H2 e2 s => ⟨sz_of (hl vs H2 s), fun p np => q (.ref p) _ (e2.trans (Ex.new np)) ⟨p, vs, rfl, upd_same, m _ _ _ (Ex.new np) s⟩⟩
theorem evq_if {t : TT} {ta tb : TE} {b : Bool} (h : EvT t σ H b) (h1 : b = true → EvQ ta σ H R) (h2 : b = false → EvQ tb σ H R) : EvQ (tIf t ta tb) σ H R := fun H1 e Q q => h H1 e _ fun H2 e2 => by
  cases b with
  | true => exact h1 rfl H2 (e.trans e2) Q fun v H3 e3 r => q v H3 (e2.trans e3) r
  | false => exact h2 rfl H2 (e.trans e2) Q fun v H3 e3 r => q v H3 (e2.trans e3) r
theorem q_asgQ {i : Nat} {tz : TS} {D : Ends} (h : EvQ te σ H R) (k : ∀ v H1, Ex H H1 → R v H1 → tz D (σ.set i (some v)) H1) : tSeq (tAsg te (gName i)) tz D σ H := h H (Ex.refl H) _ k
theorem q_retQ {D : Ends} (h : EvQ te σ H R) (k : ∀ v H1, Ex H H1 → R v H1 → D.rt v H1) : tRet te D σ H := h H (Ex.refl H) _ k
theorem evq_call {sp : Sp} {E : XK} (h : EvAQ ta σ H S) (k : ∀ vs H', Ex H H' → S vs H' → ∀ Q : VK, (∀ v H2, Ex H' H2 → R v H2 → Q v H2) → sp vs H' Q E) : EvQ (tCall sp [] E ta) σ H R := fun H1 e Q q =>
  h H1 e _ fun vs H2 e2 s => by
    have z := k vs H2 (e.trans e2) s Q fun v H3 e3 r => q v H3 (e2.trans e3) r
    simpa using z
/-- a new tuple -/
def TupR (xs : List V) : V → Hp → Prop := fun v H' => ∃ p, v = .ref p ∧ H' p = some (.tup xs)
def LstR (xs : List V) : V → Hp → Prop := fun v H' => ∃ p, v = .ref p ∧ H' p = some (.lst xs)
theorem mon_tup {xs : List V} : MonR (TupR xs) := fun v H H' e ⟨p, h1, h2⟩ => ⟨p, h1, e _ _ h2⟩
theorem mon_eq {x : V} : MonR (fun v _ => v = x) := fun _ _ _ _ h => h
theorem evq_new {xs : List V} (h : EvU te σ H xs) : EvQ te σ H (TupR xs) := fun H1 e Q q => h H1 e _ fun p H2 _ e2 hp => q _ H2 e2 ⟨p, rfl, hp⟩
theorem evq_lnew {xs : List V} (h : EvL te σ H xs) : EvQ te σ H (LstR xs) := fun H1 e Q q => h H1 e _ fun p H2 _ e2 hp => q _ H2 e2 ⟨p, rfl, hp⟩
/-- two things by relations, side by side -/
def TwoR (R R' : V → Hp → Prop) : List V → Hp → Prop := fun vs H' => ∃ a b, vs = [a, b] ∧ R a H' ∧ R' b H'
theorem eaq_two {R' : V → Hp → Prop} {tb : TE} (h1 : EvQ te σ H R) (h2 : EvQ tb σ H R') (m1 : MonR R) : EvAQ (tCons te (tCons tb tNil)) σ H (TwoR R R') := fun H1 e Q q =>
  h1 H1 e _ fun a H2 e2 r1 => h2 H2 (e.trans e2) _ fun b H3 e3 r2 => q [a, b] H3 (e2.trans e3) ⟨a, b, rfl, m1 _ _ _ e3 r1, r2⟩
theorem mon_two {R' : V → Hp → Prop} (m1 : MonR R) (m2 : MonR R') : MonL (TwoR R R') := fun vs H H' e ⟨a, b, h, r1, r2⟩ => ⟨a, b, h, m1 _ _ _ e r1, m2 _ _ _ e r2⟩
theorem evq_tup2 {R' : V → Hp → Prop} {tb : TE} (h1 : EvQ te σ H R) (h2 : EvQ tb σ H R') (m1 : MonR R) (m2 : MonR R') : EvQ (tTup (tCons te (tCons tb tNil))) σ H (fun v H' => ∃ p a b, v = .ref p ∧ H' p = some (.tup [a, b]) ∧ R a H' ∧ R' b H') :=
  (evq_tup (eaq_two h1 h2 m1) (fun vs _ ⟨a, b, h, _⟩ => by rw [h]; show 2 ≤ 100000; decide) (mon_two m1 m2)).to fun v H' _ ⟨p, vs, h1, h2, a, b, h3, r1, r2⟩ => ⟨p, a, b, h1, by rw [h2, h3], r1, r2⟩
theorem evq_lst2 {R' : V → Hp → Prop} {tb : TE} (h1 : EvQ te σ H R) (h2 : EvQ tb σ H R') (m1 : MonR R) (m2 : MonR R') : EvQ (tLst (tCons te (tCons tb tNil))) σ H (fun v H' => ∃ p a b, v = .ref p ∧ H' p = some (.lst [a, b]) ∧ R a H' ∧ R' b H') :=
  (evq_lst (eaq_two h1 h2 m1) (fun vs _ ⟨a, b, h, _⟩ => by rw [h]; show 2 ≤ 100000; decide) (mon_two m1 m2)).to fun v H' _ ⟨p, vs, h1, h2, a, b, h3, r1, r2⟩ => ⟨p, a, b, h1, by rw [h2, h3], r1, r2⟩
theorem q_ifQ {t : TT} {b : Bool} {i : Nat} {tz : TS} {D : Ends} {v0 : V} (h : EvT t σ H b) (h1 : b = true → EvQ te σ H R) (h2 : b = false → σ[i]? = some (some v0) ∧ R v0 H) (m : MonR R) (k : ∀ v H1, Ex H H1 → R v H1 → tz D (σ.set i (some v)) H1) : tSeq (tIfS t (tAsg te (gName i)) tNext) tz D σ H :=
  h H (Ex.refl H) _ fun H1 e1 => by
    cases b with
    | true => exact h1 rfl H1 e1 _ fun v H2 e2 r => k v H2 (e1.trans e2) r
    | false =>
      obtain ⟨a, r⟩ := h2 rfl
      have z := k v0 H1 e1 (m _ _ _ e1 r)
      have hs : σ.set i (some v0) = σ := by
        have hl := (List.getElem?_eq_some_iff.mp a)
        obtain ⟨hl, hv⟩ := hl
        rw [← hv]
        exact List.set_getElem_self hl
      rw [hs] at z
      exact z
theorem q_fldQ {K : PySem.W.Frag} {tv : TE} {i : Nat} {x C dx : Addr} {fs : List (Str × V)} {f : Str} {tz : TS} {D : Ends} (h : EvQ tv σ H R) (hi : σ[i]? = some (some (.ref x))) (hx : H x = some (.ins C dx fs)) (c : Cls K C) (n : NoAttr K C f) (hl : fs.length < 1000)
    (k : ∀ v H1, Ex H H1 → R v H1 → tz D σ (upd H1 x (.ins C dx (putF f v fs)))) : tSeq (sFld K (tVar i) tv f) tz D σ H := h H (Ex.refl H) _ fun v H1 e r => ⟨_, hi, x, C, dx, fs, rfl, e _ _ hx, c, n, hl, k v H1 e r⟩
theorem q_dropQ {tz : TS} {D : Ends} (h : EvQ te σ H R) (k : ∀ v H1, Ex H H1 → R v H1 → tz D σ H1) : tSeq (tDrop te) tz D σ H := h H (Ex.refl H) _ k
end
theorem units65 {k : Nat} {A : Around} (r : Room (k + 1) A) : A.units + 65 < cLine := by have := r.un; omega
section
def rNotInDT (K : PySem.W.Frag) : R2 := fun x y H Q => ∃ d ds, Dp K H x d ∧ Dp K H y (.tuple ds) ∧ SeqAt.shaped d = true ∧ SeqAt.shaped (.tuple ds) = true ∧ Q (.bl (!ds.any fun z => PyData.eqv z d)) H
theorem op_notInDT {X : Cx} (hu : X.A.units + 65 < cLine) : OpR X (compareOp .NotIn) (rNotInDT X.K) := by
  intro pins s σ H x y v u Q I rx ry h
  obtain ⟨d, ds, hd, he, sd, se, q⟩ := h
  obtain ⟨as, r1⟩ := Dp.reads I d x v hd rx
  obtain ⟨bs, r2⟩ := Dp.reads I (.tuple ds) y u he ry
  exact SeqAt.notIn_tuple_reads r2 r1 (SeqAt.canLay_of_shaped se) (SeqAt.canLay_of_shaped sd) (room_in_shaped sd hu) ⟨.bl _, H, I, rfl, q⟩
end
end TX

set_option Elab.async false
set_option linter.all false
set_option maxRecDepth 100000
set_option maxHeartbeats 4000000
/-! A comprehension over two ranges; xs.append(e) of a told value. -/
namespace TX
open PySem PySem.Spec PyProof.Rows L2 Evl Pen EV2
/-- what stays when a list's items change -/
def StayL (R : V → Hp → Prop) : Prop := ∀ (v : V) (H : Hp) (D : Addr) (xs ys : List V), H D = some (.lst xs) → R v H → R v (upd H D (.lst ys))
/-- a list of told things -/
def LsR (R : Nat → V → Hp → Prop) (n : Nat) : V → Hp → Prop := fun v H => ∃ p xs, v = .ref p ∧ H p = some (.lst xs) ∧ xs.length = n ∧ ∀ k w, xs[k]? = some w → R k w H
def IvL (R : Nat → V → Hp → Prop) (D : Addr) (H1 : Hp) (c : Nat) (H' : Hp) : Prop := Ex H1 H' ∧ ∃ xs, H' D = some (.lst xs) ∧ xs.length = c ∧ ∀ k w, xs[k]? = some w → R k w H'
theorem ex_put {H H1 : Hp} {D : Addr} {o : HO} (n : H D = none) (e : Ex H H1) : Ex H (upd H1 D o) := fun b x hb => by
  rw [upd_ne (ne_of_none hb n)]
  exact e b x hb
section
variable {K : PySem.W.Frag} {σ : L2.St} {H : Hp} {ta tb : TA} {te : TE} {a b n n1 : Nat} {lo hi lo1 hi1 : Int} {R : Nat → V → Hp → Prop}
theorem evq_lc2 (ha : EvA ta σ H [.int lo, .int hi]) (hn : (hi - lo).toNat = n) (hn1 : (hi1 - lo1).toNat = n1) (hb1 : -(2 ^ 62) ≤ lo ∧ lo < 2 ^ 62 ∧ -(2 ^ 62) ≤ hi ∧ hi < 2 ^ 62) (hb2 : -(2 ^ 62) ≤ lo1 ∧ lo1 < 2 ^ 62 ∧ -(2 ^ 62) ≤ hi1 ∧ hi1 < 2 ^ 62)
    (hb : ∀ i, i < n → ∀ H', Ex H H' → EvA tb ((wipe σ [a, b]).set a (some (.int (lo + (i : Nat))))) H' [.int lo1, .int hi1]) (hz : n * n1 ≤ 100000)
    (he : ∀ i j, i < n → j < n1 → ∀ H', Ex H H' → EvQ te ((wipe ((wipe σ [a, b]).set a (some (.int (lo + (i : Nat))))) [b]).set b (some (.int (lo1 + (j : Nat))))) H' (R (i * n1 + j)))
    (hw : ∀ v, wipe ((wipe σ [a, b]).set a (some v)) [a, b] = wipe σ [a, b]) (hw1 : ∀ v w, wipe ((wipe ((wipe σ [a, b]).set a (some v)) [b]).set b (some w)) [b] = wipe ((wipe σ [a, b]).set a (some v)) [b])
    (mR : ∀ k, MonR (R k)) (sR : ∀ k, StayL (R k)) :
    EvQ (tLc2 (iRng2 ta) (gName a) tYes (iRng2 tb) (gName b) tYes te [a, b] [b]) σ H (LsR R (n * n1)) := fun H0 e0 Q q =>
  ha H0 e0 _ fun H1 e1 => ⟨lo, hi, rfl, hb1, fun D nD => by
    have e01 := e0.trans e1
    have ivm : ∀ {c H' H''}, IvL R D H1 c H' → Ex H' H'' → IvL R D H1 c H'' := fun {c H' H''} z e => by
      obtain ⟨h1, xs, h2, h3, h4⟩ := z
      exact ⟨h1.trans e, xs, e _ _ h2, h3, fun k w h => mR k _ _ _ e (h4 k w h)⟩
    have iva : ∀ {c H' y}, IvL R D H1 c H' → R c y H' → ∀ xs, H' D = some (.lst xs) → IvL R D H1 (c + 1) (upd H' D (.lst (xs ++ [y]))) := fun {c H' y} z r ys hy => by
      obtain ⟨h1, xs, h2, h3, h4⟩ := z
      have hy2 : ys = xs := by
        rw [h2] at hy
        cases hy
        rfl
      subst hy2
      refine ⟨ex_put nD h1, ys ++ [y], upd_same, by rw [List.length_append, h3]; rfl, fun k w h => ?_⟩
      by_cases hk : k < ys.length
      · rw [List.getElem?_append_left hk] at h
        exact sR k _ _ _ _ _ h2 (h4 k w h)
      · rw [List.getElem?_append_right (by omega)] at h
        have hk2 : k - ys.length = 0 := by
          cases hj : k - ys.length with
          | zero => rfl
          | succ j => rw [hj] at h; cases h
        rw [hk2] at h
        cases h
        have hk3 : k = c := by omega
        rw [hk3]
        exact sR c _ _ _ _ _ h2 r
    refine ⟨fun i m H' => m = n - i ∧ i ≤ n ∧ IvL R D H1 (i * n1) H', ⟨n, by simp, Nat.zero_le _, fun b x hb => (by rw [upd_ne (ne_of_none hb nD)]; exact hb), [], upd_same, by simp, fun k w h => by simp at h⟩, ?_⟩
    rintro i m H2 ⟨rfl, hi2, p⟩
    rw [hn]
    by_cases hlt : i < n
    · refine .inr ⟨hlt, IvL R D H1 ((i + 1) * n1), fun H' p' => ⟨n - (i + 1), by omega, rfl, hlt, p'⟩, fun x H3 y => ?_⟩
      obtain ⟨ex, ey⟩ := y
      subst ex ey
      refine ⟨hw _, ?_⟩
      unfold tYes
      dsimp only
      rw [if_pos rfl]
      refine hb i hlt H3 (e01.trans p.1) H3 (Ex.refl H3) _ fun H4 e4 => ⟨lo1, hi1, rfl, hb2, ?_⟩
      refine ⟨fun j k H' => k = n1 - j ∧ j ≤ n1 ∧ IvL R D H1 (i * n1 + j) H', ⟨n1, by simp, Nat.zero_le _, ivm p e4⟩, ?_⟩
      rintro j k H5 ⟨rfl, hj, p5⟩
      rw [hn1]
      by_cases hjl : j < n1
      · refine .inr ⟨hjl, IvL R D H1 (i * n1 + (j + 1)), fun H' p' => ⟨n1 - (j + 1), by omega, rfl, hjl, p'⟩, fun x H6 y => ?_⟩
        obtain ⟨ex, ey⟩ := y
        subst ex ey
        refine ⟨hw1 _ _, ?_⟩
        rw [if_pos rfl]
        refine he i j hlt hjl H6 (e01.trans p5.1) H6 (Ex.refl H6) _ fun v H7 e7 r => ?_
        have p7 := ivm p5 e7
        obtain ⟨h1, xs, h2, h3, h4⟩ := p7
        have hb : i * n1 + j < 100000 := by
          have h5 : (i + 1) * n1 ≤ n * n1 := Nat.mul_le_mul_right _ hlt
          rw [Nat.succ_mul] at h5
          omega
        exact ⟨xs, h2, sz_lt (by omega), iva ⟨h1, xs, h2, h3, h4⟩ r xs h2⟩
      · have e : j = n1 := by omega
        subst e
        refine .inl ⟨Nat.le_refl _, ?_⟩
        rw [Nat.succ_mul]
        exact p5
    · have e : i = n := by omega
      subst e
      obtain ⟨h1, xs, h2, h3, h4⟩ := p
      exact .inl ⟨Nat.le_refl _, q _ H2 (e1.trans h1) ⟨D, xs, rfl, h2, h3, h4⟩⟩⟩
theorem q_ifApp {R : V → Hp → Prop} {t : TT} {b : Bool} {tz : TS} {D : Ends} {l : Addr} {xs : List V} {tl : TE} (h : EvT t σ H b) (hl : H l = some (.lst xs)) (hv : Ev tl σ H (.ref l)) (hz : xs.length < 100000) (h1 : b = true → EvQ te σ H R) (sR : StayL R)
    (k1 : b = true → ∀ v H1, Sib l H H1 → H1 l = some (.lst (xs ++ [v])) → R v H1 → tz D σ H1) (k0 : b = false → ∀ H1, Ex H H1 → tz D σ H1) : tSeq (tIfS t (tDrop (tBM K "list" rAppend tl (tCons te tNil))) tNext) tz D σ H := h H (Ex.refl H) _ fun H1 e1 => by
  cases b with
  | true =>
    refine hv H1 e1 _ fun H2 e2 => ⟨Or.inl ⟨rfl, xs, sq_of ((e1.trans e2) l _ hl)⟩, h1 rfl H2 (e1.trans e2) _ fun v H3 e3 r => ⟨l, xs, v, rfl, rfl, ((e1.trans e2).trans e3) l _ hl, sz_lt hz, ?_⟩⟩
    have hl3 := ((e1.trans e2).trans e3) l _ hl
    refine k1 rfl v _ (fun b o n hb => ?_) upd_same (sR _ _ _ _ _ hl3 r)
    rw [upd_ne n]
    exact ((e1.trans e2).trans e3) _ _ hb
  | false => exact k0 rfl H1 e1
end
theorem s_ifApp {K : PySem.W.Frag} {σ : L2.St} {H : Hp} {te : TE} {R : V → Hp → Prop} {t : TT} {b : Bool} {D : Ends} {l : Addr} {xs : List V} {tl : TE} (h : EvT t σ H b) (hl : H l = some (.lst xs)) (hv : Ev tl σ H (.ref l)) (hz : xs.length < 100000) (h1 : b = true → EvQ te σ H R)
    (k1 : b = true → ∀ v H1, Ex H H1 → R v H1 → D.nx σ (upd H1 l (.lst (xs ++ [v])))) (k0 : b = false → ∀ H1, Ex H H1 → D.nx σ H1) : tIfS t (tDrop (tBM K "list" rAppend tl (tCons te tNil))) tNext D σ H := h H (Ex.refl H) _ fun H1 e1 => by
  cases b with
  | true =>
    refine hv H1 e1 _ fun H2 e2 => ⟨Or.inl ⟨rfl, xs, sq_of ((e1.trans e2) l _ hl)⟩, h1 rfl H2 (e1.trans e2) _ fun v H3 e3 r => ⟨l, xs, v, rfl, rfl, ((e1.trans e2).trans e3) l _ hl, sz_lt hz, ?_⟩⟩
    exact k1 rfl v H3 ((e1.trans e2).trans e3) r
  | false => exact k0 rfl H1 e1
theorem q_un4 {K : PySem.W.Frag} {σ : L2.St} {H : Hp} {te : TE} {a b c d : Nat} {w x y z : V} {tz : TS} {D : Ends} (h : EvQ te σ H (TupR [w, x, y, z])) (k : ∀ H1, Ex H H1 → tz D ((((σ.set a (some w)).set b (some x)).set c (some y)).set d (some z)) H1) :
    tSeq (tAsg te (gTup K 4 (gCons (gName a) (gCons (gName b) (gCons (gName c) (gCons (gName d) gNil)))))) tz D σ H := h H (Ex.refl H) _ fun v H1 e ⟨u, hv, hu⟩ => by
  subst hv
  exact ⟨u, _, rfl, st_of hu, rfl, _, _, rfl, _, _, rfl, _, _, rfl, _, _, rfl, rfl, k H1 e⟩
theorem q_retCB {σ : L2.St} {H : Hp} {te : TE} {R : V → Hp → Prop} {r : List V → Hp → VK → Prop} {D : Ends} (h : EvQ te σ H R) (k : ∀ v H1, Ex H H1 → R v H1 → r [v] H1 D.rt) : tRet (tCB r (tCons te tNil)) D σ H := by
  show te σ H fun v H1 => r [v] H1 D.rt
  exact h H (Ex.refl H) _ k
section
variable {X : Cx}
/-- e.f, the fragment named -/
theorem pe_fldK {K : PySem.W.Frag} {o : Expr} {f : Str} {pos : Pos} {ta : TE} (he : PE X o ta) (hK : X.K = K) (hb : attributeBase o f X.env (eval o X.env) = eval o X.env) : PE X (.Attribute o f pos) (tFld K ta f) := by
  subst hK
  exact pe_fld he hb
theorem passF {P : Program} {w : World} : Passes (L2.CX P w) X E0 := fun _ _ _ _ _ _ _ h => by
  obtain ⟨_, _, _, _, _, _, _, _, _, _, _, _, z⟩ := h
  exact z.elim
end
end TX

set_option Elab.async false
set_option linter.all false
set_option maxRecDepth 100000
set_option maxHeartbeats 4000000
/-! for over range(0, n, c). -/
namespace TX
open PySem PySem.Spec PyProof.Rows L2 Evl Pen EV2
theorem small_pos {n c : Int} (hn : 0 ≤ n ∧ n ≤ 100000) (hc : 1 ≤ c ∧ c ≤ 1000) : Builtin.Range.small 0 n c = true := by
  have h1 : 0 ≤ Builtin.Range.rangeSize 0 n c ∧ Builtin.Range.rangeSize 0 n c ≤ 100000 := by
    have z := PyProof.Rows.rangeSize_toNat 0 n c
    have y := PyProof.Rows.rangeSize_toNat_le 0 n c
    omega
  unfold Builtin.Range.small
  generalize Builtin.Range.rangeSize 0 n c = r at h1
  rw [if_pos (show c > 0 by omega)]
  simp only [Builtin.Range.rangeFitsLong, Bool.and_eq_true, Bool.or_eq_true, decide_eq_true_eq, beq_iff_eq]
  omega
theorem rgc_pos {n c : Int} (hn : 0 ≤ n ∧ n ≤ 100000) (hc : 1 ≤ c ∧ c ≤ 1000) : RgC 0 n c (Builtin.Range.rangeSize 0 n c).toNat :=
  ⟨by omega, by omega, small_pos hn hc, PyProof.Rows.rangeSize_toNat 0 n c⟩
theorem q_forR3 {σ : L2.St} {H : Hp} {tu tz : TS} {D : Ends} {ta : TA} {j : Nat} {n c : Int} (h : EvA ta σ H [.int 0, .int n, .int c]) (hn : 0 ≤ n ∧ n ≤ 100000) (hc : 1 ≤ c ∧ c ≤ 1000) (Pv : L2.St → Hp → Prop) (h0 : ∀ H1, Ex H H1 → Pv σ H1)
    (hs : ∀ (k : Nat) σ' H', (k : Int) < n → Pv σ' H' → tu { D with nx := Pv, ct := Pv, bk := tz D } (σ'.set j (some (.int (k : Int)))) H') (hd : ∀ σ' H', Pv σ' H' → tz D σ' H') : tSeq (tFor (iRng3 ta) (gName j) tu) tz D σ H :=
  h H (Ex.refl H) _ fun H1 e => ⟨0, n, c, (Builtin.Range.rangeSize 0 n c).toNat, rfl, rgc_pos hn hc, for_it (D := { D with nx := tz D }) walk_rangeC (fun _ => Pv) (h0 H1 e) (fun _ _ _ _ _ => trivial) (fun i x σ' H' H2 hi p y => by
    obtain ⟨e1, e2⟩ := y
    subst e1 e2
    have hin := PyProof.Rows.start_inside (v := (i : Int)) hc.1 hn.1 (by omega) (by have := PyProof.Rows.rangeSize_toNat 0 n c; omega)
    have e3 : (0 : Int) + (i : Nat) * c = (((i : Nat) * c : Int).toNat : Int) := by omega
    show tu _ (σ'.set j (some (.int ((0 : Int) + (i : Nat) * c)))) _
    rw [e3]
    exact hs _ σ' _ (by omega) p) hd⟩
end TX

set_option Elab.async false
set_option linter.all false
set_option maxRecDepth 100000
set_option maxHeartbeats 4000000
/-! != of two pairs of a text and one and the same object. -/
namespace TX
open PySem PySem.Spec PyProof.Rows L2 Evl Pen EV2
def rNeS (K : PySem.W.Frag) : R2 := fun x y H Q => ∃ (a b : Addr) (z : Str) (r : Addr), x = .ref a ∧ y = .ref b ∧ SqT K H a [.str z, .ref r] ∧ SqT K H b [.str z, .ref r] ∧ Q (.bl false) H
theorem op_neS {X : Cx} (hu : X.A.units + 64 < cLine) : OpR X (compareOp .NotEq) (rNeS X.K) := by
  intro pins s σ H x y v u Q I rx ry h
  obtain ⟨a, b, z, r, rfl, rfl, ha, hb, q⟩ := h
  cases rx
  cases ry
  obtain ⟨its, r1, p1, _⟩ := I.tuple ha
  obtain ⟨its2, r2, p2, _⟩ := I.tuple hb
  cases r1 with
  | cons e1 r1 =>
    cases r1 with
    | cons e2 r1 =>
      cases r1
      cases r2 with
      | cons f1 r2 =>
        cases r2 with
        | cons f2 r2 =>
          cases r2
          obtain ⟨t1, rfl⟩ := e1
          obtain ⟨t2, rfl⟩ := f1
          cases e2
          cases f2
          have hh : SeqAt.RcNeAt X.A s (.ref a) (.ref b) (!((List.range (min 2 2)).all (fun _ => true) && (2 : Nat) == 2)) := SeqAt.RcNeAt.tuples p1 p2 (by omega) fun j h1 h2 => by
            match j, h1 with
            | 0, _ =>
              have e : SeqAt.EqAt X.A.in1 s (Value.str z t1) (Value.str z t2) (z == z) := SeqAt.EqAt.str_str z t1 z t2
              rw [show (z == z) = true by simp] at e
              exact e
            | 1, _ => exact SeqAt.EqAt.same _
          exact hh _ _ _ _ ⟨.bl false, H, I, rfl, q⟩
end TX

set_option Elab.async false
set_option linter.all false
set_option maxRecDepth 100000
set_option maxHeartbeats 4000000
/-! The call of a lambda with one name, a pair's key: the whole heap stays. -/
namespace TX
open PySem PySem.Spec PyProof.Rows L2 Evl Pen EV2
section
variable {prog : Program} {w : World} {A : Around} {E : Value → Shared → Prop} {s : Shared} {env : Env} {x : Str} {m : Str → Option Value} {T : Addr} {its : Array Value} {j : Nat} {v : Value} {Q : Value → Shared → Prop}
theorem raw_name {p : Pos} (hk : env.scope.kind = .function) (hl : env.kindOf x = some .local) (hn : s.heap.Ns env.locals m) (hm : m x = some v) (hd : (x == ("__debug__" : Str)) = false) (q : Q v s) : wpAny (model prog w) A (eval (.Name x p) env) Q E s :=
  wpAny_Name (wpAny_loadName_local hk hl hn hm q) hd
theorem seqIx {j n : Nat} (h : j < n) : seqIndex? (j : Int) n = some j := by
  unfold seqIndex?
  first
    | (rw [if_pos (by omega)]; simp; done)
    | (simp; omega)
theorem raw_sub {p1 p2 p3 : Pos} {k : Nat} (hk : env.scope.kind = .function) (hl : env.kindOf x = some .local) (hn : s.heap.Ns env.locals m) (hm : m x = some (.ref T)) (hd : (x == ("__debug__" : Str)) = false) (ht : s.heap.IsTuple T its) (hj : its.toList[j]? = some v) (hz : its.size ≤ 100)
    (q : ∀ tk, Q v { s with toks := tk }) : wpAny (model prog w) A (eval (.Subscript (.Name x p1) (.Constant (.int (j : Int)) k p2) p3) env) Q E s := by
  refine Subscript_ (raw_name hk hl hn hm hd (wpAny_Constant_int ?_))
  have hlt : j < its.size := by
    have := (List.getElem?_eq_some_iff.mp hj).1
    simpa using this
  exact subscriptTail_builtinR (x := v) ht.typeIs slot_tuple_getitem.lookup (getItem_tuple (j := j) (Q := fun r s' => r = v ∧ Q r s') ht (by omega) (by omega) (seqIx hlt) (by simpa using hj) ⟨rfl, q _⟩)
/-- the lambda's body: a pair of the first item and not the second -/
theorem raw_key {p1 p2 p3 p4 p5 p6 p7 p8 : Pos} {k1 k2 k3 : Nat} {n : Int} {t : Tok} {b : Bool} (hk : env.scope.kind = .function) (hl : env.kindOf x = some .local) (hn : s.heap.Ns env.locals m) (hm : m x = some (.ref T)) (hd : (x == ("__debug__" : Str)) = false) (ht : s.heap.IsTuple T its) (hi : its.toList = [.int n t, .bool b])
    (q : ∀ tk, Q (.ref s.heap.objs.size) { s with heap := s.heap.push { cls := .type "tuple", data := .seq #[.int n t, .bool (!b)] }, toks := tk }) :
    wpAny (model prog w) A (eval (.Tuple [.Subscript (.Name x p1) (.Constant (.int 0) k1 p2) p3, .UnaryOp .Not (.Subscript (.Name x p4) (.Constant (.int 1) k2 p5) p6) p7] k3 p8) env) Q E s := by
  have hz : its.size ≤ 100 := by
    have : its.toList.length = 2 := by rw [hi]; rfl
    have h2 : its.size = 2 := by simpa using this
    omega
  refine wpAny_Tuple_spliced ?_
  show wpAny (model prog w) A (spliced [(false, eval (.Subscript (.Name x p1) (.Constant (.int 0) k1 p2) p3) env), (false, eval (.UnaryOp .Not (.Subscript (.Name x p4) (.Constant (.int 1) k2 p5) p6) p7) env)]) _ E s
  refine Calls.spliced_cons (raw_sub (j := 0) hk hl hn hm hd ht (by rw [hi]; rfl) hz fun tk => ?_)
  refine Calls.spliced_cons (UnaryOp_ (raw_sub (s := { s with toks := tk }) (j := 1) (v := .bool b) hk hl hn hm hd ht (by rw [hi]; rfl) hz fun tk2 => ?_))
  refine not_of (wpAny_truthy_bool ?_)
  refine Calls.spliced_nil ⟨by show 2 ≤ sizeLine; decide, q tk2⟩
/-- the call of the lambda at f with the pair at a: the key, and the whole heap stays -/
theorem lam_key {f a c' : Addr} {qual : Str} {params : Arguments} {scope : Scope} {pm ctv : Value} {p1 p2 p3 p4 p5 p6 p7 p8 : Pos} {k1 k2 k3 : Nat} {n : Int} {t : Tok} {b : Bool} (hdp : A.depth < recursionLimit)
    (hf : s.heap.get? f = some (PySem.W.kla_obj "<lambda>" qual params (.Tuple [.Subscript (.Name x p1) (.Constant (.int 0) k1 p2) p3, .UnaryOp .Not (.Subscript (.Name x p4) (.Constant (.int 1) k2 p5) p6) p7] k3 p8) scope [] pm c' ctv))
    (hco : scope.isCoroutine = false) (hgen : scope.isGenerator = false) (hk : scope.kind = .function) (hnc : ∀ y ∈ scope.names, y.2 ≠ .cell) (hl : scope.names.lookup x = some .local) (hd : (x == ("__debug__" : Str)) = false)
    (hcd : s.heap.CodeRec (.ref c') qual) (lim : s.heap.NoLimit) (ht : s.heap.IsTuple a its) (hi : its.toList = [.int n t, .bool b])
    (hbind : bindArgs (PySem.W.kla_fn "<lambda>" qual params (.Tuple [.Subscript (.Name x p1) (.Constant (.int 0) k1 p2) p3, .UnaryOp .Not (.Subscript (.Name x p4) (.Constant (.int 1) k2 p5) p6) p7] k3 p8) scope [] pm (.ref c') ctv) ⟨[.ref a], []⟩ = pure [(x, .ref a)]) :
    wpAny (model prog w) A (call (.ref f) [.ref a]) (PySem.W.KeyPure (.tuple [.int n, .bool (!b)]) s) (fun _ _ => False) s := by
  refine wpAny_call (PySem.W.kla_callFunE hdp hf rfl hco hgen rfl hcd ?_)
  rw [hbind]
  refine wpAny_pure (wpAny_newFunctionEnv hnc (fun y hy => by rw [List.mem_singleton.mp hy]; exact hl) (fun h₁ hns hsb => ⟨lim.fresh _ hsb, ?_⟩) hk)
  refine PySem.W.kla_codeExpr ?_
  have kp : ∀ b o, s.heap.get? b = some o → h₁.get? b = some o := fun b o e => hsb.extBut b o (Nat.ne_of_lt (Heap.lt_size e)) (Heap.get?_push_of_some _ e)
  have ht' : h₁.IsTuple a its := by
    obtain ⟨o, e, c, r⟩ := ht
    exact ⟨o, kp _ _ e, c, r⟩
  refine raw_key (m := fun y => [(x, Value.ref a)].reverse.lookup y) hk hl hns (by simp) hd ht' hi fun tk => ?_
  refine ⟨_, tk, rfl, fun b o e => Heap.get?_push_of_some _ (kp b o e), ?_⟩
  exact .tuple (as := [] ++ ([] ++ [])) (Heap.get?_push_size _ rfl) rfl rfl (.cons (.int _ _) (.cons (.bool _) .nil))
end
end TX

set_option Elab.async false
set_option linter.all false
set_option maxRecDepth 100000
set_option maxHeartbeats 4000000
namespace K18
open PySem PySem.Spec PyProof.Rows L2 Pen
def topS (i : Nat) : Stmt := PySem.Challenge.pw_allinputs_k18_texts_of_areas.main.body.getD i (.Pass ⟨0, 0, 0, 0⟩)
abbrev s_l_pen : Stmt := topS 47
abbrev N_l_pen : List Str := ["_law_script"]
abbrev P_l_pen : List Str := ["_law_script"]
theorem sc_l_pen : FnScope N_l_pen P_l_pen (defScope s_l_pen) := ⟨rfl, rfl, rfl, by decide +kernel, rfl, by decide +kernel, by decide +kernel⟩
abbrev s_l_draw : Stmt := topS 48
abbrev N_l_draw : List Str := ["_law_pen_here", "_law_span", "_law_digit", "_law_at", "_law_cell", "_law_mash"]
abbrev P_l_draw : List Str := ["_law_pen_here", "_law_span"]
theorem sc_l_draw : FnScope N_l_draw P_l_draw (defScope s_l_draw) := ⟨rfl, rfl, rfl, by decide +kernel, rfl, by decide +kernel, by decide +kernel⟩
abbrev s_l_pick : Stmt := topS 49
abbrev N_l_pick : List Str := ["_law_pen_here", "_law_menu"]
abbrev P_l_pick : List Str := ["_law_pen_here", "_law_menu"]
theorem sc_l_pick : FnScope N_l_pick P_l_pick (defScope s_l_pick) := ⟨rfl, rfl, rfl, by decide +kernel, rfl, by decide +kernel, by decide +kernel⟩
/-- what the top has written that the pens use -/
structure TxtA (mg : Str → Option Value) : Prop where
  n_list : mg "list" = none
  n_int : mg "int" = none
  n_len : mg "len" = none
abbrev PenAt := Pen.At "cells" "at" "left"
def spPen (K : PySem.W.Frag) : Sp := fun vs H Q _ => ∃ (a : Addr) (ns : List Int), vs = [.ref a] ∧ SqL K H a (ns.map V.int) ∧ ns.length ≤ 63 ∧
  ∀ (p c : Addr) (H' : Hp), H p = none → Same H H' → PenAt H' p c ns 0 0 → Q (.ref p) H'
def spDraw : Sp := fun vs H Q _ => ∃ (p c : Addr) (cs : List Int) (i r m : Int), vs = [.ref p, .int m] ∧ PenAt H p c cs i r ∧ i < 2 ^ 39 ∧ 0 < m ∧ m < 2 ^ 29 ∧
  ∀ (z i' r' : Int) (H' : Hp), 0 ≤ z → z < m → i ≤ i' → i' ≤ i + 1 → Sib p H H' → PenAt H' p c cs i' r' → Q (.int z) H'
/-- one of the items; xs the list's values, l not the pen -/
def spPick (K : PySem.W.Frag) : Sp := fun vs H Q _ => ∃ (p c : Addr) (cs : List Int) (i r : Int) (l : Addr) (xs : List V), vs = [.ref p, .ref l] ∧ PenAt H p c cs i r ∧ i < 2 ^ 39 ∧ SqL K H l xs ∧ 0 < xs.length ∧ xs.length < 2 ^ 29 ∧ l ≠ p ∧
  ∀ (x : V) (i' r' : Int) (H' : Hp), x ∈ xs → i ≤ i' → i' ≤ i + 1 → Sib p H H' → PenAt H' p c cs i' r' → Q x H'
section
variable {P : Program} {w : World} {K : PySem.W.Frag} {mg : Str → Option Value} {base : Heap}
theorem ok_l_pen {f : Addr} {fd : FuncData} (F : Fun K "_law_pen" "_law_pen" s_l_pen f fd) (T : TxtA mg) : FnOk P w K mg base CX0 1 f fd P_l_pen (spPen K) := by
  refine F.ok sc_l_pen (fun vs H Q E h => ?_) (fun cdv A outer s H vs Q E hr h => ?_)
  · obtain ⟨a, ns, rfl, _⟩ := h
    rfl
  · obtain ⟨a, ns, rfl, hS, hl, k⟩ := h
    refine ⟨_, (pss_one (ps_ret (pe_disp (pps_cons pe_str (pe_callTy (T := "list") call_list_of (by rfl) T.n_list (by decide +kernel) (pa_cons (pe_slice sl_list (pv 0) po_none (po_some pe_int)) pa_nil)) (pps_cons pe_str pe_int (pps_cons pe_str pe_int pps_nil))) (by rfl) (by rfl) (fun z => by cases z) (by decide)))), ?_⟩
    intro p hp
    have s1 : Same H (upd H p (.dK [])) := fun b o e => by rw [upd_ne (ne_of_none e hp)]; exact e
    refine ⟨_, rfl, _, rfl, a, _, rfl, s1.seq hS, fun q hq => ?_⟩
    have s2 : Same (upd H p (.dK [])) (upd (upd H p (.dK [])) q (.lst (cutV (ns.map V.int) none (some 63)))) := fun b o e => by rw [upd_ne (ne_of_none e hq)]; exact e
    refine ⟨q, _, rfl, .inl (SqL.of upd_same), fun l hl' => ?_⟩
    have s3 : Same (upd (upd H p (.dK [])) q (.lst (cutV (ns.map V.int) none (some 63)))) (upd (upd (upd H p (.dK [])) q (.lst (cutV (ns.map V.int) none (some 63)))) l (.lst (cutV (ns.map V.int) none (some 63)))) := fun b o e => by rw [upd_ne (ne_of_none e hl')]; exact e
    have hp3 := s3 p _ (s2 p _ upd_same)
    refine ⟨hp3, kvs "cells" "at" "left" l 0 0, rfl, (by show 3 ≤ 15; decide), ?_⟩
    have em : mergeK ([] : List (Key × V)) (kvs "cells" "at" "left" l 0 0) = kvs "cells" "at" "left" l 0 0 := by rfl
    rw [em]
    have np : l ≠ p := ne_of upd_same hp3 (by intro z; cases z)
    refine k p l _ hp (fun b o e => ?_) ⟨upd_same, ?_, by omega, by decide, by decide⟩
    · rw [upd_ne (ne_of_none e hp)]
      exact s3 b o (s2 b o (s1 b o e))
    · rw [upd_ne np, upd_same, show cutV (ns.map V.int) none (some 63) = ns.map V.int from cut_all (n := 63) (by rw [List.length_map]; exact hl)]
theorem ok_l_draw {f : Addr} {fd : FuncData} (F : Fun K "_law_draw" "_law_draw" s_l_draw f fd) (T : TxtA mg) : FnOk P w K mg base CX0 1 f fd P_l_draw spDraw := by
  refine F.ok sc_l_draw (fun vs H Q E h => ?_) (fun cdv A outer s H vs Q E hr h => ?_)
  · obtain ⟨p, c, cs, i, r, m, rfl, _⟩ := h
    rfl
  · obtain ⟨p, c, cs, i, r, m, rfl, D, hi, hm0, hm1, k⟩ := h
    have hu := hu_of hr
    have mok : m ≠ 0 ∧ m.natAbs < 1073741824 := ⟨by omega, by omega⟩
    refine ⟨_, (pss_cons (ps_if (pt_cmpR op_ge (pe_dget hu (pv 0) pe_str (fun _ _ => rfl)) (pv 1) (nomark _)) (pss_cons (ps_set (i := 2) sc_l_draw.nd rfl (Or.inl rfl) (pe_op op_modN (pe_callTy (T := "int") call_int1 (by rfl) T.n_int (by decide +kernel) (pa_cons (pe_dget hu (pv 0) pe_str (fun _ _ => rfl)) pa_nil)) (pv 1)))
      (pss_cons (ps_dput hu (pv 0) pe_str (pe_op op_fdivN (pe_dget hu (pv 0) pe_str (fun _ _ => rfl)) (pv 1)) rfl)
      (pss_one (ps_ret (pv 2))))) pss_nil)
      (pss_cons (ps_set (i := 3) sc_l_draw.nd rfl (Or.inl rfl) (pe_dget hu (pv 0) pe_str (fun _ _ => rfl)))
      (pss_cons (ps_dput hu (pv 0) pe_str (pe_op op_add (pv 3) pe_int) rfl)
      (pss_cons (ps_set (i := 4) sc_l_draw.nd rfl (Or.inl rfl) (pe_op op_add (pe_op op_mul pe_int (pv 3)) pe_int))
      (Evl.pss_cut (ps_if (pt_cmpR (op_neD hr.units) (pe_dget hu (pv 0) pe_str (fun _ _ => rfl)) (pe_lst pa_nil) (nomark _)) (pss_one (ps_set (i := 4) sc_l_draw.nd rfl (Or.inl rfl) (pe_ix ix_list (pe_dget hu (pv 0) pe_str (fun _ _ => rfl)) (pe_op op_modN (pe_callTy (T := "int") call_int1 (by rfl) T.n_int (by decide +kernel) (pa_cons (pv 3) pa_nil)) (pe_callB (id := "len") call_len (by rfl) T.n_len (by decide +kernel) (pa_cons (pe_dget hu (pv 0) pe_str (fun _ _ => rfl)) pa_nil))) (fun _ _ => rfl)))) pss_nil)
      (Evl.pss_cut (ps_if (PW.pt (pw_and (pt_cmpR op_lt (pv 3) (pe_callB (id := "len") call_len (by rfl) T.n_len (by decide +kernel) (pa_cons (pe_dget hu (pv 0) pe_str (fun _ _ => rfl)) pa_nil)) (nomark _)) (pw_and1 (pt_cmpR op_ge (pv 4) (pe_op op_pow pe_int pe_int) (nomark _))))) (pss_cons (ps_dput hu (pv 0) pe_str (pe_op op_fdivN (pe_op op_sub (pv 4) (pe_op op_pow pe_int pe_int)) (pv 1)) rfl)
      (pss_one (ps_ret (pe_op op_modN (pe_callTy (T := "int") call_int1 (by rfl) T.n_int (by decide +kernel) (pa_cons (pe_op op_sub (pv 4) (pe_op op_pow pe_int pe_int)) pa_nil)) (pv 1))))) pss_nil)
      (pss_cons (ps_set (i := 5) sc_l_draw.nd rfl (Or.inl rfl) (pe_op op_add (pe_op op_mul (pe_op op_modN (pe_callTy (T := "int") call_int1 (by rfl) T.n_int (by decide +kernel) (pa_cons (pv 4) pa_nil)) pe_int) pe_int) (pe_op op_mul (pe_op op_mul pe_int (pv 3)) (pv 3))))
      (pss_cons (ps_set (i := 5) sc_l_draw.nd rfl (Or.inl rfl) (pe_op op_modN (pe_callTy (T := "int") call_int1 (by rfl) T.n_int (by decide +kernel) (pa_cons (pe_op op_add (pe_op op_add (pv 5) (pe_op op_mul pe_int (pv 3))) pe_int) pa_nil)) pe_int))
      (pss_cons (ps_set (i := 5) sc_l_draw.nd rfl (Or.inl rfl) (pe_op op_modN (pe_callTy (T := "int") call_int1 (by rfl) T.n_int (by decide +kernel) (pa_cons (pe_op op_add (pe_op op_mul (pv 5) (pe_op op_add (pv 5) pe_int)) (pe_op op_mul pe_int (pv 3))) pa_nil)) pe_int))
      (pss_one (ps_ret (pe_op op_modN (pe_callTy (T := "int") call_int1 (by rfl) T.n_int (by decide +kernel) (pa_cons (pe_op op_fdivN (pe_op op_modN (pe_callTy (T := "int") call_int1 (by rfl) T.n_int (by decide +kernel) (pa_cons (pe_op op_add (pe_op op_mul (pv 5) (pv 5)) (pe_op op_mul pe_int (pv 5))) pa_nil)) pe_int) pe_int) pa_nil)) (pv 1))))))))))))), ?_⟩
    refine ⟨_, rfl, _, _, rfl, get3 D (by decide) (by decide), _, rfl, _, _, rfl, rfl, _, rfl, ?_⟩
    refine ite2 (fun _ => ?_) (fun _ => ?_)
    · refine ⟨_, rfl, _, _, rfl, get3 D (by decide) (by decide), .inl ⟨_, rfl, _, rfl, _, _, rfl, rfl, by omega, ?_⟩⟩
      refine ⟨_, rfl, _, _, rfl, get3 D (by decide) (by decide), _, rfl, _, _, rfl, rfl, mok, _, rfl, _, _, rfl, put3 D (by decide) (by decide) _, ?_⟩
      refine ⟨_, rfl, ?_⟩
      exact k _ _ _ _ (fmod_lo hm0) (fmod_hi hm0) (Int.le_refl _) (by omega) Sib.put (D.to upd_same Sib.put D.h0 D.h1)
    · refine ⟨_, rfl, _, _, rfl, get2 D (by decide), ?_⟩
      refine ⟨_, rfl, _, _, rfl, rfl, _, rfl, _, _, rfl, put2 D (by decide) (by decide) _, ?_⟩
      have D1 : PenAt (upd H p (.dK (kvs "cells" "at" "left" c (i + 1) r))) p c cs (i + 1) r := D.to upd_same Sib.put (by have := D.h0; omega) (by omega)
      refine ⟨_, rfl, _, _, rfl, rfl, .inl ⟨by decide, by decide⟩, _, _, rfl, rfl, ?_⟩
      -- if cells != []: cell = cells[..]
      refine ⟨fun σ' H' => ∃ z : Int, σ' = [some (.ref p), some (.int m), none, some (.int i), some (.int z), none] ∧ Same (upd H p (.dK (kvs "cells" "at" "left" c (i + 1) r))) H', ?_, ?_⟩
      · refine ⟨_, rfl, _, _, rfl, get1 D1, (by decide), fun q hq => ?_⟩
        have sq : Same (upd H p (.dK (kvs "cells" "at" "left" c (i + 1) r))) (upd (upd H p (.dK (kvs "cells" "at" "left" c (i + 1) r))) q (.lst [])) := fun b o e => by rw [upd_ne (ne_of_none e hq)]; exact e
        have D2 := D1.keep sq
        refine ⟨_, _, .lst (SqL.of D2.hc) (dp_ints cs), .lst (SqL.of upd_same) .nil, shaped_ints cs, rfl, _, rfl, ?_⟩
        rw [eqv_nil]
        cases hb : decide (cs = []) with
        | true => exact iteF ⟨_, rfl, sq⟩
        | false =>
          refine iteT ?_
          have ne : cs ≠ [] := of_decide_eq_false hb
          have l0 : 0 < cs.length := by
            cases cs with
            | nil => exact absurd rfl ne
            | cons a l => exact Nat.succ_pos _
          refine ⟨_, rfl, _, _, rfl, get1 D2, ?_⟩
          refine ⟨_, rfl, .inl ⟨_, rfl, _, rfl, _, _, rfl, get1 D2, _, cs.length, rfl, .inl ⟨_, SqL.of D2.hc, (List.length_map _).symm⟩, _, _, rfl, rfl, by omega, ?_⟩⟩
          have b0 : 0 ≤ i.fmod (cs.length : Int) := fmod_lo (by omega)
          have b1 : i.fmod (cs.length : Int) < cs.length := fmod_hi (by omega)
          obtain ⟨z, hz⟩ := at_ints (cs := cs) b0 b1
          exact ⟨_, _, _, _, rfl, rfl, SqL.of D2.hc, hz, z, rfl, sq⟩
      · rintro σ' H' ⟨z, rfl, sH⟩
        have D2 := D1.keep sH
        have sib : Sib p H H' := Sib.trans Sib.put fun b o _ e => sH b o e
        refine ⟨fun σ2 H2 => σ2 = [some (.ref p), some (.int m), none, some (.int i), some (.int z), none] ∧ H2 = H', ?_, ?_⟩
        rotate_left
        · rintro σ2 H2 ⟨rfl, rfl⟩
          have nz : ∀ {a : Int}, a ≠ 0 → a ≠ 0 := fun h => h
          have ib : -(2 ^ 64) < i ∧ i < 2 ^ 64 := ⟨by have := D.h0; omega, by omega⟩
          refine ⟨_, rfl, .inl ⟨_, rfl, _, _, rfl, rfl, (by show (2147481997 : Int) ≠ 0; decide), _, _, rfl, rfl, .inr ⟨by decide, by decide⟩, _, rfl, _, _, rfl, rfl, .inl ⟨by decide, by decide⟩, _, rfl, _, _, rfl, rfl, .inr ib, _, _, rfl, rfl, ?_⟩⟩
          refine ⟨_, rfl, _, rfl, _, _, rfl, rfl, .inl ⟨by decide, by decide⟩, _, _, rfl, rfl, _, _, rfl, rfl, .inl ⟨_, rfl, _, _, rfl, rfl, (by show (2147482063 : Int) ≠ 0; decide), ?_⟩⟩
          refine ⟨_, rfl, _, rfl, _, _, rfl, rfl, _, _, rfl, rfl, .inl (fm64 (by decide) (by decide)), _, rfl, _, _, rfl, rfl, .inl ⟨by decide, by decide⟩, _, _, rfl, rfl, .inl ⟨_, rfl, _, _, rfl, rfl, (by show (2147482121 : Int) ≠ 0; decide), ?_⟩⟩
          refine ⟨_, rfl, _, rfl, _, _, rfl, rfl, .inl (fm64 (by decide) (by decide)), _, rfl, _, _, rfl, rfl, .inl ⟨by decide, by decide⟩, _, _, rfl, rfl, .inl ⟨_, rfl, _, _, rfl, rfl, (by show (2147482223 : Int) ≠ 0; decide), _, _, rfl, rfl, ⟨by decide, by decide⟩, .inl ⟨_, rfl, _, rfl, _, _, rfl, rfl, mok.1, ?_⟩⟩⟩
          exact k _ _ _ _ (fmod_lo hm0) (fmod_hi hm0) (by omega) (Int.le_refl _) sib D2
        refine ⟨_, rfl, _, rfl, _, _, rfl, get1 D2, _, cs.length, rfl, .inl ⟨_, SqL.of D2.hc, (List.length_map _).symm⟩, _, _, rfl, rfl, _, rfl, ?_⟩
        refine ite2 (fun _ => ?_) (fun _ => ?_)
        · refine ⟨_, rfl, _, _, rfl, rfl, ⟨by decide, by decide, by decide⟩, _, _, rfl, rfl, _, rfl, ?_⟩
          refine ite2 (fun _ => ?_) (fun _ => ?_)
          · -- a great cell
            refine ⟨_, rfl, _, _, rfl, rfl, ⟨by decide, by decide, by decide⟩, _, _, rfl, rfl, _, rfl, _, _, rfl, rfl, mok, _, rfl, _, _, rfl, put3 D2 (by decide) (by decide) _, ?_⟩
            refine ⟨_, rfl, _, _, rfl, rfl, ⟨by decide, by decide, by decide⟩, _, _, rfl, rfl, .inl ⟨_, rfl, _, rfl, _, _, rfl, rfl, by omega, ?_⟩⟩
            exact k _ _ _ _ (fmod_lo hm0) (fmod_hi hm0) (by omega) (Int.le_refl _) (Sib.trans sib Sib.put) (D2.to upd_same Sib.put D2.h0 D2.h1)
          · exact ⟨rfl, rfl⟩
        · exact ⟨rfl, rfl⟩
theorem ok_l_pick {f fD : Addr} {fd fdD : FuncData} (F : Fun K "_law_pick" "_law_pick" s_l_pick f fd) (T : TxtA mg) (FD : Fun K "_law_draw" "_law_draw" s_l_draw fD fdD) (b_l_draw : Binds K fdD P_l_draw []) (mgD : mg "_law_draw" = some (.ref fD)) : FnOk P w K mg base CX0 2 f fd P_l_pick (spPick K) := by
  have G_l_draw : FnOk P w K mg base CX0 1 fD fdD P_l_draw spDraw := ok_l_draw FD T
  refine F.ok sc_l_pick (fun vs H Q E h => ?_) (fun cdv A outer s H vs Q E hr h => ?_)
  · obtain ⟨p, c, cs, i, r, l, xs, rfl, _⟩ := h
    rfl
  · obtain ⟨p, c, cs, i, r, l, xs, rfl, D, hi, hL, x0, x1, ne, k⟩ := h
    refine ⟨_, (pss_one (ps_ret (pe_ix ix_list (pv 1) (pe_call G_l_draw (hr.mono (by decide)) (by rfl) mgD FD.kp b_l_draw .nil pass0 (pa_cons (pv 0) (pa_cons (pe_callB (id := "len") call_len (by rfl) T.n_len (by decide +kernel) (pa_cons (pv 1) pa_nil)) pa_nil))) (fun _ _ => rfl)))), ?_⟩
    refine ⟨_, rfl, _, rfl, _, rfl, _, xs.length, rfl, .inl ⟨_, hL, rfl⟩, p, c, cs, i, r, _, rfl, D, hi, by omega, by omega, fun z i' r' H' z0 z1 i0 i1 sib D' => ?_⟩
    have hk : z.toNat < xs.length := by omega
    have hz : atI xs z = some xs[z.toNat] := by
      unfold atI ixN
      rw [if_pos z0, if_pos z1, Option.bind_some, List.getElem?_eq_getElem hk]
    exact ⟨_, _, _, _, rfl, rfl, SqL_sib hL sib (fun e => ne e), hz, k _ i' r' H' (List.getElem_mem hk) i0 i1 sib D'⟩
end
end K18

set_option Elab.async false
set_option linter.all false
set_option maxRecDepth 100000
set_option maxHeartbeats 4000000
namespace K18
open PySem PySem.Spec PyProof.Rows L2 Pen EV2 Evl TX LamX
theorem hx0 {X : Cx} : Passes CX0 X fun _ _ _ => False := fun _ _ _ _ _ _ _ h => h.elim
section
variable {P : Program} {w : World} {K : PySem.W.Frag} {mg : Str → Option Value} {base : Heap} {f C : Addr} {fd : FuncData}
abbrev s_BadValue_init : Stmt := inClass (topS 3) 0
abbrev N_BadValue_init : List Str := ["self", "value"]
abbrev P_BadValue_init : List Str := ["self", "value"]
theorem sc_BadValue_init : FnScope N_BadValue_init P_BadValue_init (defScope s_BadValue_init) := ⟨rfl, rfl, rfl, by decide +kernel, rfl, by decide +kernel, by decide +kernel⟩
theorem ok_BadValue_init (F : Fun K "__init__" "BadValue.__init__" s_BadValue_init f fd) (O : OexC K C) (no : PySem.W.findIn K (.ref C) "value" = some none) : FnOk P w K mg base CX0 1 f fd P_BadValue_init (spI1 C "value") := by
  refine F.ok sc_BadValue_init (fun vs H Q E h => ?_) (fun cdv A outer s H vs Q E hr h => ?_)
  · obtain ⟨a, v, rfl, _⟩ := h
    rfl
  · obtain ⟨a, v, rfl, e, k⟩ := h
    exact ⟨_, pss_one (ps_ost (pv 0) (pv 1)), _, rfl, _, rfl, a, C, rfl, O, no, .inl ⟨e, k⟩⟩
theorem kp_BadValue_init (F : Fun K "__init__" "BadValue.__init__" s_BadValue_init f fd) : KBn K fd P_BadValue_init 2 [] (fun us ws => us) (fun vs zs => vs) :=
  kbn_of F (fun _ _ _ _ _ _ us ws l1 l2 => match us, ws, l1, l2 with | [_, _], [], _, _ => rfl) fun r _ => r
abbrev s_NotAName_init : Stmt := inClass (topS 5) 0
abbrev N_NotAName_init : List Str := ["self", "name"]
abbrev P_NotAName_init : List Str := ["self", "name"]
theorem sc_NotAName_init : FnScope N_NotAName_init P_NotAName_init (defScope s_NotAName_init) := ⟨rfl, rfl, rfl, by decide +kernel, rfl, by decide +kernel, by decide +kernel⟩
theorem ok_NotAName_init (F : Fun K "__init__" "NotAName.__init__" s_NotAName_init f fd) (O : OexC K C) (no : PySem.W.findIn K (.ref C) "name" = some none) : FnOk P w K mg base CX0 1 f fd P_NotAName_init (spI1 C "name") := by
  refine F.ok sc_NotAName_init (fun vs H Q E h => ?_) (fun cdv A outer s H vs Q E hr h => ?_)
  · obtain ⟨a, v, rfl, _⟩ := h
    rfl
  · obtain ⟨a, v, rfl, e, k⟩ := h
    exact ⟨_, pss_one (ps_ost (pv 0) (pv 1)), _, rfl, _, rfl, a, C, rfl, O, no, .inl ⟨e, k⟩⟩
theorem kp_NotAName_init (F : Fun K "__init__" "NotAName.__init__" s_NotAName_init f fd) : KBn K fd P_NotAName_init 2 [] (fun us ws => us) (fun vs zs => vs) :=
  kbn_of F (fun _ _ _ _ _ _ us ws l1 l2 => match us, ws, l1, l2 with | [_, _], [], _, _ => rfl) fun r _ => r
abbrev s_is_integer : Stmt := topS 8
abbrev N_is_integer : List Str := ["value"]
abbrev P_is_integer : List Str := ["value"]
theorem sc_is_integer : FnScope N_is_integer P_is_integer (defScope s_is_integer) := ⟨rfl, rfl, rfl, by decide +kernel, rfl, by decide +kernel, by decide +kernel⟩
abbrev s_check_range : Stmt := topS 10
abbrev N_check_range : List Str := ["value", "least", "most"]
abbrev P_check_range : List Str := ["value", "least", "most"]
theorem sc_check_range : FnScope N_check_range P_check_range (defScope s_check_range) := ⟨rfl, rfl, rfl, by decide +kernel, rfl, by decide +kernel, by decide +kernel⟩
abbrev s_check_string : Stmt := topS 12
abbrev N_check_string : List Str := ["value"]
abbrev P_check_string : List Str := ["value"]
theorem sc_check_string : FnScope N_check_string P_check_string (defScope s_check_string) := ⟨rfl, rfl, rfl, by decide +kernel, rfl, by decide +kernel, by decide +kernel⟩
abbrev s_letters_of : Stmt := topS 20
abbrev N_letters_of : List Str := ["column", "letters", "left", "at"]
abbrev P_letters_of : List Str := ["column"]
theorem sc_letters_of : FnScope N_letters_of P_letters_of (defScope s_letters_of) := ⟨rfl, rfl, rfl, by decide +kernel, rfl, by decide +kernel, by decide +kernel⟩
abbrev s_is_letters : Stmt := topS 28
abbrev N_is_letters : List Str := ["text"]
abbrev P_is_letters : List Str := ["text"]
theorem sc_is_letters : FnScope N_is_letters P_is_letters (defScope s_is_letters) := ⟨rfl, rfl, rfl, by decide +kernel, rfl, by decide +kernel, by decide +kernel⟩
abbrev s_is_column_text : Stmt := topS 29
abbrev N_is_column_text : List Str := ["text"]
abbrev P_is_column_text : List Str := ["text"]
theorem sc_is_column_text : FnScope N_is_column_text P_is_column_text (defScope s_is_column_text) := ⟨rfl, rfl, rfl, by decide +kernel, rfl, by decide +kernel, by decide +kernel⟩
abbrev s_column_of : Stmt := topS 21
abbrev N_column_of : List Str := ["letters", "column", "letter"]
abbrev P_column_of : List Str := ["letters"]
theorem sc_column_of : FnScope N_column_of P_column_of (defScope s_column_of) := ⟨rfl, rfl, rfl, by decide +kernel, rfl, by decide +kernel, by decide +kernel⟩
end
/-- an error that the program raises -/
structure Er (K : PySem.W.Frag) (mg : Str → Option Value) (x q : Str) (st : Stmt) (f : Str) (S C fI : Addr) (fd : FuncData) : Prop where
  gC : mg x = some (.ref C)
  ec : ErrC K C fI
  xf : XfC K C
  no : PySem.W.findIn K (.ref C) f = some none
  F : Fun K "__init__" q st fI fd
  ln : LineOf K S C
  nS : C ≠ S
/-- the addresses -/
structure Ads where
  S : Addr
  CB : Addr
  CN : Addr
  iB : Addr
  iN : Addr
  dB : FuncData
  dN : FuncData
  f_is_integer : Addr
  f_check_range : Addr
  f_check_string : Addr
  f_letters_of : Addr
  f_is_letters : Addr
  f_is_column_text : Addr
  f_column_of : Addr
  d_is_integer : FuncData
  d_check_range : FuncData
  d_check_string : FuncData
  d_letters_of : FuncData
  d_is_letters : FuncData
  d_is_column_text : FuncData
  d_column_of : FuncData
structure TxtC (K : PySem.W.Frag) (mg : Str → Option Value) (p : Ads) : Prop where
  BadValue : Er K mg "BadValue" "BadValue.__init__" s_BadValue_init "value" p.S p.CB p.iB p.dB
  NotAName : Er K mg "NotAName" "NotAName.__init__" s_NotAName_init "name" p.S p.CN p.iN p.dN
  nBN : p.CB ≠ p.CN
  n_isinstance : mg "isinstance" = none
  n_int : mg "int" = none
  n_bool : mg "bool" = none
  n_str : mg "str" = none
  n_len : mg "len" = none
  n_divmod : mg "divmod" = none
  mg_COLUMNS : ∃ t, mg "COLUMNS" = some (.int 18278 t)
  mg__LETTERS : ∃ t, mg "_LETTERS" = some (.str A26 t)
  mg_is_integer : mg "is_integer" = some (.ref p.f_is_integer)
  F_is_integer : Fun K "is_integer" "is_integer" s_is_integer p.f_is_integer p.d_is_integer
  b_is_integer : Binds K p.d_is_integer P_is_integer []
  mg_check_range : mg "check_range" = some (.ref p.f_check_range)
  F_check_range : Fun K "check_range" "check_range" s_check_range p.f_check_range p.d_check_range
  b_check_range : Binds K p.d_check_range P_check_range []
  mg_check_string : mg "check_string" = some (.ref p.f_check_string)
  F_check_string : Fun K "check_string" "check_string" s_check_string p.f_check_string p.d_check_string
  b_check_string : Binds K p.d_check_string P_check_string []
  mg_letters_of : mg "letters_of" = some (.ref p.f_letters_of)
  F_letters_of : Fun K "letters_of" "letters_of" s_letters_of p.f_letters_of p.d_letters_of
  b_letters_of : Binds K p.d_letters_of P_letters_of []
  mg_is_letters : mg "is_letters" = some (.ref p.f_is_letters)
  F_is_letters : Fun K "is_letters" "is_letters" s_is_letters p.f_is_letters p.d_is_letters
  b_is_letters : Binds K p.d_is_letters P_is_letters []
  mg_is_column_text : mg "is_column_text" = some (.ref p.f_is_column_text)
  F_is_column_text : Fun K "is_column_text" "is_column_text" s_is_column_text p.f_is_column_text p.d_is_column_text
  b_is_column_text : Binds K p.d_is_column_text P_is_column_text []
  mg_column_of : mg "column_of" = some (.ref p.f_column_of)
  F_column_of : Fun K "column_of" "column_of" s_column_of p.f_column_of p.d_column_of
  b_column_of : Binds K p.d_column_of P_column_of []

def goodK (n : String) (g : Bool) : Prop := ∃ a b, kitB n "int" = some a ∧ kitB n "bool" = some b ∧ g = (a && !b)
def spIsInt (K : PySem.W.Frag) : Sp := fun vs H Q _ => ∃ (v : V) (n : String) (g : Bool), vs = [v] ∧ Knd K H v n ∧ goodK n g ∧ ∀ H', Same H H' → Q (.bl g) H'
/-- raises BadValue of v, NotAName of v -/
def bad (C : Addr) (f : Str) (H : Hp) (v : V) (E : XK) : Prop := ∀ d H', Same H H' → H d = none → H' d = some (.xd [(f, v)]) → E (.ref C) (some d) H'
theorem bad.at {C : Addr} {f : Str} {H H' : Hp} {v : V} {E : XK} (b : bad C f H v E) (e : Ex H H') : bad C f H' v E := fun d H2 s n x => b d H2 (e.trans s) (fresh_back e n) x
def spRange (K : PySem.W.Frag) (CB : Addr) : Sp := fun vs H Q E => ∃ (v : V) (lo hi : Int) (n : String) (g : Bool), vs = [v, .int lo, .int hi] ∧ Knd K H v n ∧ goodK n g ∧
  ((∃ i, v = .int i ∧ g = true ∧ lo ≤ i ∧ i ≤ hi ∧ ∀ H', Same H H' → Q .non H') ∨ ((g = true → ∃ i, v = .int i ∧ (i < lo ∨ hi < i)) ∧ bad CB "value" H v E))
def spString (K : PySem.W.Frag) (CB : Addr) : Sp := fun vs H Q E => ∃ (v : V) (n : String) (g : Bool), vs = [v] ∧ Knd K H v n ∧ kitB n "str" = some g ∧
  (g = true → ∀ H', Same H H' → Q .non H') ∧ (g = false → bad CB "value" H v E)
section
variable {P : Program} {w : World} {K : PySem.W.Frag} {mg : Str → Option Value} {base : Heap} {p : Ads}
theorem ok_is_integer (T : TxtC K mg p) : FnOk P w K mg base CX0 1 p.f_is_integer p.d_is_integer P_is_integer (spIsInt K) := by
  refine T.F_is_integer.ok sc_is_integer (fun vs H Q E h => ?_) (fun cdv A outer s H vs Q E hr h => ?_)
  · obtain ⟨v, n, g, rfl, _⟩ := h
    rfl
  · obtain ⟨v, n, g, rfl, kn, ⟨a, b, ha, hb, rfl⟩, k⟩ := h
    refine ⟨_, (pss_one (ps_ret (pe_and (pe_callB (id := "isinstance") call_isi (by rfl) T.n_isinstance (by decide +kernel) (pa_cons (pv 0) (pa_cons (pe_bltn (v := .ty "int") (by rfl) T.n_int (by decide +kernel) rfl) pa_nil))) (pe_one (pe_not (pe_callB (id := "isinstance") call_isi (by rfl) T.n_isinstance (by decide +kernel) (pa_cons (pv 0) (pa_cons (pe_bltn (v := .ty "bool") (by rfl) T.n_bool (by decide +kernel) rfl) pa_nil)))))))), ?_⟩
    exact (ev_andV (ev_isi kn ha (ev_var rfl)) fun _ => ev_notV (ev_isi kn hb (ev_var rfl))) H (Ex.refl H) _ fun H' e => k H' e
theorem ok_check_range (T : TxtC K mg p) : FnOk P w K mg base (L2.CX P w) 3 p.f_check_range p.d_check_range P_check_range (spRange K p.CB) := by
  have G_is_integer : FnOk P w K mg base CX0 1 p.f_is_integer p.d_is_integer P_is_integer (spIsInt K) := ok_is_integer T
  refine T.F_check_range.okX sc_check_range (fun vs H Q E h => ?_) (fun cdv A outer s H vs Q E hr h => ?_)
  · obtain ⟨v, lo, hi, n, g, rfl, _⟩ := h
    rfl
  · obtain ⟨v, lo, hi, n, g, rfl, kn, hg, h⟩ := h
    refine ⟨_, (pss_one (ps_if (PW.pt (pw_or (pt_not (pt_val (pe_call G_is_integer (hr.mono (by decide)) (by rfl) T.mg_is_integer T.F_is_integer.kp T.b_is_integer .nil pass0 (pa_cons (pv 0) pa_nil)))) (pw_or (pt_cmpR op_lt (pv 0) (pv 1) (nomark _)) (pw_or1 (pt_cmpR op_gt (pv 0) (pv 2) (nomark _)))))) (pss_one (ps_raise rfl (takes_of rfl rfl rfl rfl) (pmk_R (n := 1) T.BadValue.ec (ok_BadValue_init T.BadValue.F T.BadValue.ec.ox T.BadValue.no) (hr.mono (by decide)) (by rfl) T.BadValue.gC (kp_BadValue_init T.BadValue.F) hx0 (pa_cons (pv 0) pa_nil)))) pss_nil)), ?_⟩
    have ei : Ev (tCall (spIsInt K) [] E0 (tCons (tVar 0) tNil)) [some v, some (.int lo), some (.int hi)] H (.bl g) := fun H1 e Q q => ⟨_, rfl, v, n, g, rfl, kn.ext e, hg, fun H' s => q H' s⟩
    rcases h with ⟨i, rfl, rfl, h1, h2, k⟩ | ⟨h1, k⟩
    · refine s_when (b := false) (et_is (et_or (et_not (et_B ei)) fun _ => et_or (et_test (ev_op (ev_var rfl) (ev_var rfl) rv_I0)) fun _ => et_test (ev_op (ev_var rfl) (ev_var rfl) rv_I0)) ?_) (fun z => nomatch z) fun _ H1 e1 => k H1 e1
      show (!true || (decide (i < lo) || decide (hi < i))) = false
      simp
      omega
    · cases g with
      | false =>
        refine s_when (b := true) (et_is (et_or (b := true) (et_not (et_B ei)) fun z => nomatch z) rfl) (fun _ H1 e1 => ?_) fun z => nomatch z
        exact ⟨_, rfl, rfl, rfl, by decide, rr_e1 (Q := E) fun d H' nd sm hd => k d H' (e1.trans sm) (fresh_back e1 nd) hd⟩
      | true =>
        obtain ⟨i, rfl, h2⟩ := h1 rfl
        refine s_when (b := true) (et_is (et_or (et_not (et_B ei)) fun _ => et_or (et_test (ev_op (ev_var rfl) (ev_var rfl) rv_I0)) fun _ => et_test (ev_op (ev_var rfl) (ev_var rfl) rv_I0)) ?_) (fun _ H1 e1 => ?_) fun z => nomatch z
        · show (!true || (decide (i < lo) || decide (hi < i))) = true
          simp
          omega
        · exact ⟨_, rfl, rfl, rfl, by decide, rr_e1 (Q := E) fun d H' nd sm hd => k d H' (e1.trans sm) (fresh_back e1 nd) hd⟩
theorem ok_check_string (T : TxtC K mg p) : FnOk P w K mg base (L2.CX P w) 3 p.f_check_string p.d_check_string P_check_string (spString K p.CB) := by
  refine T.F_check_string.okX sc_check_string (fun vs H Q E h => ?_) (fun cdv A outer s H vs Q E hr h => ?_)
  · obtain ⟨v, n, g, rfl, _⟩ := h
    rfl
  · obtain ⟨v, n, g, rfl, kn, hk, h1, h2⟩ := h
    refine ⟨_, (pss_one (ps_if (pt_not (pt_val (pe_callB (id := "isinstance") call_isi (by rfl) T.n_isinstance (by decide +kernel) (pa_cons (pv 0) (pa_cons (pe_bltn (v := .ty "str") (by rfl) T.n_str (by decide +kernel) rfl) pa_nil))))) (pss_one (ps_raise rfl (takes_of rfl rfl rfl rfl) (pmk_R (n := 1) T.BadValue.ec (ok_BadValue_init T.BadValue.F T.BadValue.ec.ox T.BadValue.no) (hr.mono (by decide)) (by rfl) T.BadValue.gC (kp_BadValue_init T.BadValue.F) hx0 (pa_cons (pv 0) pa_nil)))) pss_nil)), ?_⟩
    have ei := ev_isi (σ := [some v]) kn hk (ev_var (i := 0) rfl)
    cases g with
    | true => exact s_when (b := false) (et_is (et_not (et_B ei)) rfl) (fun z => nomatch z) fun _ H1 e1 => h1 rfl H1 e1
    | false =>
      refine s_when (b := true) (et_is (et_not (et_B ei)) rfl) (fun _ H1 e1 => ?_) fun z => nomatch z
      exact ⟨_, rfl, rfl, rfl, by decide, rr_e1 (Q := E) fun d H' nd sm hd => h2 rfl d H' (e1.trans sm) (fresh_back e1 nd) hd⟩
end
end K18

set_option Elab.async false
set_option linter.all false
set_option maxRecDepth 100000
set_option maxHeartbeats 4000000
namespace TX
open PySem PySem.Spec PyProof.Rows L2 Pen EV2 Evl LamX
section
variable {K : PySem.W.Frag} {σ : L2.St} {H : Hp} {ta tb tc te : TE} {r r' : R2} {x y w z : V} {k : Bool} {l : List Nat}
theorem ev_chain (ha : Ev ta σ H x) (hb : Ev tb σ H y) (hr : RV r x y H (.bl k)) (h1 : k = true → Ev tc σ H w ∧ RV r' y w H z) (h0 : k = false → z = .bl false) : Ev (tChain r r' ta tb tc) σ H z := fun H1 e Q q =>
  ha H1 e _ fun H2 e2 => hb H2 (e.trans e2) _ fun H3 e3 => hr H3 ((e.trans e2).trans e3) _ fun H4 e4 => ⟨k, rfl, by
    have e5 := (e2.trans e3).trans e4
    cases k with
    | true => exact (h1 rfl).1 H4 (e.trans e5) _ fun H5 e6 => (h1 rfl).2 H5 ((e.trans e5).trans e6) Q fun H6 e7 => q H6 ((e5.trans e6).trans e7)
    | false =>
      have g := q H4 e5
      rw [h0 rfl] at g
      exact g⟩
theorem ev_lenS (h : Ev ta σ H (.str (S l))) (hl : l.length ≤ 100000) : Ev (tCB (rLenX K) (tCons ta tNil)) σ H (.int l.length) := fun H1 e Q q =>
  h H1 e _ fun H2 e2 => ⟨_, l.length, rfl, ⟨by rw [len_S]; exact sz_of hl, (len_S l).symm⟩, q H2 e2⟩
theorem ev_len26 (h : Ev ta σ H (.str A26)) : Ev (tCB (rLenX K) (tCons ta tNil)) σ H (.int 26) := fun H1 e Q q =>
  h H1 e _ fun H2 e2 => ⟨_, 26, rfl, ⟨by decide +kernel, by decide +kernel⟩, q H2 e2⟩
theorem q_cbK {r : List V → Hp → VK → Prop} {tr : TA} {vs : List V} {g : TG} {tz : TS} {D : Ends} (h : EvA tr σ H vs) (k : ∀ H1, Ex H H1 → r vs H1 fun x H2 => g x σ H2 (tz D)) : tSeq (tAsg (tCB r tr) g) tz D σ H :=
  h H (Ex.refl H) _ fun H1 e => k H1 e
def rUpper : V → List V → Hp → VK → Prop := fun x xs H Q => ∃ a, x = .str a ∧ xs = [] ∧ a.length ≤ 5592405 ∧ Q (.str (Txt.upper a)) H
theorem ev_upper (h : Ev te σ H (.str (S l))) (ha : ∀ c ∈ l, c < 128) (hl : l.length ≤ 100000) : Ev (tBM0 K "str" rUpper te) σ H (.str (S (l.map up))) := fun H1 e Q q =>
  h H1 e _ fun H2 e2 => ⟨rfl, S l, rfl, rfl, by rw [len_S]; omega, by rw [up_S ha]; exact q H2 e2⟩
theorem ev_isascii (h : Ev te σ H (.str (S l))) (ha : ∀ c ∈ l, c < 128) : Ev (tBM0 K "str" (fun x xs H Q => ∃ a, x = .str a ∧ xs = [] ∧ True ∧ Q (.bl (Txt.isascii a)) H) te) σ H (.bl true) := fun H1 e Q q =>
  h H1 e _ fun H2 e2 => ⟨rfl, S l, rfl, rfl, True.intro, by rw [ascii_S ha]; exact q H2 e2⟩
theorem ev_isalpha (h : Ev te σ H (.str (S l))) (ha : ∀ c ∈ l, c < 128) : Ev (tBM0 K "str" (fun x xs H Q => ∃ a, x = .str a ∧ xs = [] ∧ True ∧ Q (.bl (Txt.isalpha a)) H) te) σ H (.bl (decide (0 < l.length) && l.all let1)) := fun H1 e Q q =>
  h H1 e _ fun H2 e2 => ⟨rfl, S l, rfl, rfl, True.intro, by rw [alpha_S ha]; exact q H2 e2⟩
theorem ev_index {W : WX} {c : Nat} (ha : Ev ta σ H (.str A26)) (hb : Ev tb σ H (sg c)) (h1 : 65 ≤ c) (h2 : c ≤ 90) : Ev (tBMS K "str" (rIndexX W) ta (tCons tb tNil)) σ H (.int ((c - 65 : Nat) : Int)) := fun H1 e Q q =>
  ha H1 e _ fun H2 e2 => ⟨rfl, hb H2 (e.trans e2) _ fun H3 e3 => ⟨A26, S [c], rfl, rfl, fun k hk => by
    rw [ix_of c (by omega) h1 h2] at hk
    rw [← Option.some.inj hk]
    exact q H3 (e2.trans e3), fun hn => by
    rw [ix_of c (by omega) h1 h2] at hn
    cases hn⟩⟩
end
def colText (l : List Nat) : Bool := decide (1 ≤ l.length) && decide (l.length ≤ 3) && l.all let1
theorem up_rng {l : List Nat} (h : l.all let1 = true) : ∀ c ∈ l.map up, 65 ≤ c ∧ c ≤ 90 := fun c hc => by
  obtain ⟨x, hx, rfl⟩ := List.mem_map.mp hc
  exact of_decide_eq_true (List.all_eq_true.mp h x hx)
end TX
namespace K18
open PySem PySem.Spec PyProof.Rows L2 Pen EV2 Evl TX LamX
def spLettersOf (K : PySem.W.Frag) (CB : Addr) : Sp := fun vs H Q E => ∃ v : V, vs = [v] ∧ ((∃ c : Nat, v = .int c ∧ 1 ≤ c ∧ c ≤ 18278 ∧ ∀ H', Same H H' → Q (.str (S (letsF 3 c))) H') ∨
  (∃ (n : String) (g : Bool), Knd K H v n ∧ goodK n g ∧ (g = true → ∃ i, v = .int i ∧ (i < 1 ∨ 18278 < i)) ∧ bad CB "value" H v E))
def spAlpha (f : List Nat → Bool) : Sp := fun vs H Q _ => ∃ l : List Nat, vs = [.str (S l)] ∧ (∀ c ∈ l, c < 128) ∧ l.length ≤ 1000 ∧ ∀ H', Same H H' → Q (.bl (f l)) H'
def spColumnOf (K : PySem.W.Frag) (CB CN : Addr) : Sp := fun vs H Q E => ∃ v : V, vs = [v] ∧
  ((∃ l : List Nat, v = .str (S l) ∧ (∀ c ∈ l, c < 128) ∧ l.length ≤ 1000 ∧ (colText l = true → ∀ H', Same H H' → Q (.int (val (l.map up))) H') ∧ (colText l = false → bad CN "name" H v E)) ∨
  (∃ n : String, Knd K H v n ∧ kitB n "str" = some false ∧ bad CB "value" H v E))
section
variable {P : Program} {w : World} {K : PySem.W.Frag} {mg : Str → Option Value} {base : Heap} {p : Ads}
theorem ok_letters_of (T : TxtC K mg p) : FnOk P w K mg base (L2.CX P w) 4 p.f_letters_of p.d_letters_of P_letters_of (spLettersOf K p.CB) := by
  have G_check_range : FnOk P w K mg base (L2.CX P w) 3 p.f_check_range p.d_check_range P_check_range (spRange K p.CB) := ok_check_range T
  obtain ⟨tC, hCOL⟩ := T.mg_COLUMNS
  obtain ⟨tL, hLET⟩ := T.mg__LETTERS
  refine T.F_letters_of.okX sc_letters_of (fun vs H Q E h => ?_) (fun cdv A outer s H vs Q E hr h => ?_)
  · obtain ⟨v, rfl, _⟩ := h
    rfl
  · obtain ⟨v, rfl, h⟩ := h
    refine ⟨_, (pss_cons (ps_expr (pe_call G_check_range (hr.mono (by decide)) (by rfl) T.mg_check_range T.F_check_range.kp T.b_check_range .nil (passes_call (takes_of rfl rfl rfl rfl) fun _ _ _ _ h => h) (pa_cons (pv 0) (pa_cons pe_int (pa_cons (pe_glob (v := .int 18278) (by rfl) hCOL ⟨_, rfl⟩) pa_nil)))))
      (pss_cons (ps_set (i := 1) sc_letters_of.nd rfl (Or.inl rfl) pe_str)
      (pss_cons (ps_set (i := 2) sc_letters_of.nd rfl (Or.inl rfl) (pv 0))
      (pss_cons (ps_while (passes_of rfl) (pt_cmpR op_gt (pv 2) pe_int (nomark _)) (pss_cons (ps_asg (pe_callB (id := "divmod") call_divmod (by rfl) T.n_divmod (by decide +kernel) (pa_cons (pe_op op_sub (pv 2) pe_int) (pa_cons (pe_callB (id := "len") call_len (by rfl) T.n_len (by decide +kernel) (pa_cons (pe_glob (v := .str A26) (by rfl) hLET ⟨_, rfl⟩) pa_nil)) pa_nil))) (pg_tup (by rfl) (pgs_cons (pg_name (i := 2) sc_letters_of.nd rfl (Or.inl rfl)) (pgs_cons (pg_name (i := 3) sc_letters_of.nd rfl (Or.inl rfl)) pgs_nil))))
      (pss_one (ps_set (i := 1) sc_letters_of.nd rfl (Or.inl rfl) (pe_op op_add_str (pe_ix ix_str (pe_glob (v := .str A26) (by rfl) hLET ⟨_, rfl⟩) (pv 3) (fun _ _ => rfl)) (pv 1))))))
      (pss_one (ps_ret (pv 1))))))), ?_⟩
    rcases h with ⟨c, rfl, c1, c2, k⟩ | ⟨n, g, kn, hg, h1, k⟩
    · refine q_drop (v := .non) (fun H1 e Q q => ⟨_, rfl, .int c, 1, 18278, "int", true, rfl, knd_int, ⟨true, false, by decide +kernel, by decide +kernel, rfl⟩, .inl ⟨c, rfl, rfl, by omega, by omega, fun H' s => q H' s⟩⟩) fun H1 e1 => ?_
      refine q_asg ev_c fun H2 e2 => ?_
      refine q_asg (ev_var rfl) fun H3 e3 => ?_
      have e03 := (e1.trans e2).trans e3
      refine q_while (fun m σ' H' => ∃ (l f : Nat) (acc : List Nat) (at_ : Option V), σ' = [some (.int c), some (.str (S acc)), some (.int l), at_] ∧ letsF f l ++ acc = letsF 3 c ∧ l < bnd f ∧ l = m ∧ Ex H H') c ⟨c, 3, [], none, rfl, List.append_nil _, by show c < 18279; omega, rfl, e03⟩ ?_
      rintro m σ' H4 ⟨l, f, acc, at_, rfl, hL, hb, rfl, e4⟩
      refine ⟨_, et_test (ev_op (ev_var rfl) ev_c rv_I0), fun ht H5 e5 => ?_, fun hf H5 e5 => ?_⟩
      · have hl : (0 : Int) < l := of_decide_eq_true ht
        obtain ⟨n, rfl⟩ : ∃ n, l = n + 1 := ⟨l - 1, by omega⟩
        obtain ⟨f, rfl⟩ : ∃ g, f = g + 1 := by
          cases f with
          | zero => exact absurd hb (by show ¬ n + 1 < 1; omega)
          | succ g => exact ⟨g, rfl⟩
        have hacc : acc.length ≤ 3 := by
          have z := congrArg List.length hL
          rw [List.length_append] at z
          have := lets_len 3 c
          omega
        refine ⟨_, fun σ2 H2 n => n, ?_⟩
        have q1 : ((n + 1 : Nat) : Int) - 1 = (n : Int) := by omega
        refine q_cbK (ea_cons (ev_op (ev_var rfl) ev_c rv_I0) (ea_cons (ev_len26 (K := K) ev_c) ea_nil)) fun H6 e6 => ⟨_, _, rfl, ⟨by decide, by decide⟩, fun t ht => ?_⟩
        refine ⟨t, _, rfl, st_of upd_same, rfl, _, _, rfl, _, _, rfl, rfl, ?_⟩
        have e7 := (e4.trans e5).trans (e6.trans (Ex.new (o := .tup [.int ((((n + 1 : Nat) : Int) - 1) / 26), .int ((((n + 1 : Nat) : Int) - 1) % 26)]) ht))
        have hm : n % 26 < 26 := Nat.mod_lt _ (by decide)
        show tAsg _ _ _ _ _
        have q2 : (((n + 1 : Nat) : Int) - 1) % 26 = ((n % 26 : Nat) : Int) := by omega
        have q3 : (((n + 1 : Nat) : Int) - 1) / 26 = ((n / 26 : Nat) : Int) := by omega
        rw [q2, q3]
        refine s_asg (v := .str (S ([65 + n % 26] ++ acc))) ?hv fun H8 e8 => ?hk
        case hv =>
          refine ev_addS (l := [65 + n % 26]) (m := acc) ?_ (ev_var rfl) (by show 1 + acc.length ≤ 100000; omega)
          exact ev_op ev_c (ev_var rfl) (rv_ixS (w := A26) (by decide +kernel) (at_of _ hm))
        case hk =>
          rw [q2, q3] at e7
          refine ⟨n / 26, by omega, n / 26, f, [65 + n % 26] ++ acc, _, rfl, ?_, bnd_div hb, rfl, e7.trans e8⟩
          rw [← List.append_assoc, ← lets_succ]
          exact hL
      · have hl : l = 0 := by
          have : ¬ (0 : Int) < l := of_decide_eq_false hf
          omega
        subst hl
        rw [lets_zero] at hL
        have hL : acc = letsF 3 c := hL
        subst hL
        exact ⟨_, rfl, k H5 (e4.trans e5)⟩
    · exact ⟨_, rfl, v, 1, 18278, n, g, rfl, kn, hg, .inr ⟨h1, k⟩⟩
theorem ok_is_letters (T : TxtC K mg p) : FnOk P w K mg base CX0 1 p.f_is_letters p.d_is_letters P_is_letters (spAlpha fun l => decide (0 < l.length) && l.all let1) := by
  refine T.F_is_letters.ok sc_is_letters (fun vs H Q E h => ?_) (fun cdv A outer s H vs Q E hr h => ?_)
  · obtain ⟨l, rfl, _⟩ := h
    rfl
  · obtain ⟨l, rfl, ha, hl, k⟩ := h
    refine ⟨_, (pss_one (ps_ret (pe_and (pe_bm0 PySem.F.plainAttrs_str PySem.F.slot_str_isascii PySem.F.type_str_isascii mt_isascii (pv 0)) (pe_one (pe_bm0 PySem.F.plainAttrs_str PySem.F.slot_str_isalpha PySem.F.type_str_isalpha mt_isalpha (pv 0)))))), ?_⟩
    exact (ev_andV (ev_isascii (K := K) (ev_var rfl) ha) fun _ => ev_isalpha (K := K) (ev_var rfl) ha) H (Ex.refl H) _ fun H' e => k H' e
theorem ok_is_column_text (T : TxtC K mg p) : FnOk P w K mg base CX0 2 p.f_is_column_text p.d_is_column_text P_is_column_text (spAlpha colText) := by
  have G_is_letters : FnOk P w K mg base CX0 1 p.f_is_letters p.d_is_letters P_is_letters (spAlpha fun l => decide (0 < l.length) && l.all let1) := ok_is_letters T
  refine T.F_is_column_text.ok sc_is_column_text (fun vs H Q E h => ?_) (fun cdv A outer s H vs Q E hr h => ?_)
  · obtain ⟨l, rfl, _⟩ := h
    rfl
  · obtain ⟨l, rfl, ha, hl, k⟩ := h
    refine ⟨_, (pss_one (ps_ret (pe_and (pe_chain op_le op_le pe_int (pe_callB (id := "len") call_len (by rfl) T.n_len (by decide +kernel) (pa_cons (pv 0) pa_nil)) pe_int) (pe_one (pe_call G_is_letters (hr.mono (by decide)) (by rfl) T.mg_is_letters T.F_is_letters.kp T.b_is_letters .nil pass0 (pa_cons (pv 0) pa_nil)))))), ?_⟩
    have e1 : Ev (tCall (spAlpha fun l => decide (0 < l.length) && l.all let1) [] E0 (tCons (tVar 0) tNil)) [some (.str (S l))] H (.bl (decide (0 < l.length) && l.all let1)) := fun H1 e Q q => ⟨_, rfl, l, rfl, ha, hl, fun H' s => q H' s⟩
    refine (ev_andV (a := decide (1 ≤ l.length) && decide (l.length ≤ 3)) (ev_chain (k := decide ((1 : Int) ≤ l.length)) ev_c (ev_lenS (K := K) (ev_var rfl) (by omega)) rv_I0 (fun h1 => ⟨ev_c, fun H1 e Q q => ⟨_, _, rfl, rfl, ?g1⟩⟩) (fun h0 => ?g2)) fun _ => e1) H (Ex.refl H) _ fun H' e => ?g3
    case g1 =>
      have z : decide ((l.length : Int) ≤ 3) = (decide (1 ≤ l.length) && decide (l.length ≤ 3)) := by
        have h2 : (1 : Int) ≤ l.length := of_decide_eq_true h1
        have h3 : 1 ≤ l.length := by omega
        rw [decide_eq_true h3, Bool.true_and]
        exact decide_eq_decide.mpr (by omega)
      show Q (.bl (decide ((l.length : Int) ≤ 3))) H1
      rw [z]
      exact q H1 (Ex.refl H1)
    case g2 =>
      have h2 : ¬ (1 : Int) ≤ l.length := of_decide_eq_false h0
      rw [decide_eq_false (show ¬ 1 ≤ l.length by omega)]
      rfl
    case g3 =>
      have z : (decide (1 ≤ l.length) && decide (l.length ≤ 3) && (decide (0 < l.length) && l.all let1)) = colText l := by
        unfold colText
        by_cases h : 1 ≤ l.length
        · rw [decide_eq_true (show 0 < l.length from h)]
          simp
        · rw [decide_eq_false h]
          simp
      have g := k H' e
      rw [← z] at g
      exact g
theorem ok_column_of (T : TxtC K mg p) : FnOk P w K mg base (L2.CX P w) 4 p.f_column_of p.d_column_of P_column_of (spColumnOf K p.CB p.CN) := by
  have G_check_string : FnOk P w K mg base (L2.CX P w) 3 p.f_check_string p.d_check_string P_check_string (spString K p.CB) := ok_check_string T
  have G_is_column_text : FnOk P w K mg base CX0 2 p.f_is_column_text p.d_is_column_text P_is_column_text (spAlpha colText) := ok_is_column_text T
  obtain ⟨tL, hLET⟩ := T.mg__LETTERS
  refine T.F_column_of.okX sc_column_of (fun vs H Q E h => ?_) (fun cdv A outer s H vs Q E hr h => ?_)
  · obtain ⟨v, rfl, _⟩ := h
    rfl
  · obtain ⟨v, rfl, h⟩ := h
    refine ⟨_, (pss_cons (ps_expr (pe_call G_check_string (hr.mono (by decide)) (by rfl) T.mg_check_string T.F_check_string.kp T.b_check_string .nil (passes_call (takes_of rfl rfl rfl rfl) fun _ _ _ _ h => h) (pa_cons (pv 0) pa_nil)))
      (pss_cons (ps_if (pt_not (pt_val (pe_call G_is_column_text (hr.mono (by decide)) (by rfl) T.mg_is_column_text T.F_is_column_text.kp T.b_is_column_text .nil pass0 (pa_cons (pv 0) pa_nil)))) (pss_one (ps_raise rfl (takes_of rfl rfl rfl rfl) (pmk_R (n := 1) T.NotAName.ec (ok_NotAName_init T.NotAName.F T.NotAName.ec.ox T.NotAName.no) (hr.mono (by decide)) (by rfl) T.NotAName.gC (kp_NotAName_init T.NotAName.F) hx0 (pa_cons (pv 0) pa_nil)))) pss_nil)
      (pss_cons (ps_set (i := 1) sc_column_of.nd rfl (Or.inl rfl) pe_int)
      (pss_cons (ps_for (passes_of rfl) rfl (pi_str (pe_bm0 PySem.F.plainAttrs_str PySem.F.slot_str_upper PySem.F.type_str_upper mt_upper (pv 0))) (pg_name (i := 2) sc_column_of.nd rfl (Or.inl rfl)) (pss_one (ps_set (i := 1) sc_column_of.nd rfl (Or.inl rfl) (pe_op op_add (pe_op op_add (pe_op op_mul (pv 1) (pe_callB (id := "len") call_len (by rfl) T.n_len (by decide +kernel) (pa_cons (pe_glob (v := .str A26) (by rfl) hLET ⟨_, rfl⟩) pa_nil))) (pe_bmS PySem.F.plainAttrs_str PySem.F.slot_str_index PySem.F.type_str_index (mt_indexX rfl (takes_of rfl rfl rfl rfl)) (pe_glob (v := .str A26) (by rfl) hLET ⟨_, rfl⟩) (pa_cons (pv 2) pa_nil))) pe_int))))
      (pss_one (ps_ret (pv 1))))))), ?_⟩
    rcases h with ⟨l, rfl, ha, hl, h1, h2⟩ | ⟨n, kn, hk, h1⟩
    · refine q_drop (v := .non) (fun H1 e Q q => ⟨_, rfl, .str (S l), "str", true, rfl, knd_str, by decide +kernel, fun _ H' s => q H' s, fun z => nomatch z⟩) fun H1 e1 => ?_
      have ec : Ev (tCall (spAlpha colText) [] E0 (tCons (tVar 0) tNil)) [some (.str (S l)), none, none] H1 (.bl (colText l)) := fun H2 e Q q => ⟨_, rfl, l, rfl, ha, hl, fun H' s => q H' s⟩
      refine q_when (et_not (et_B ec)) (fun hb H2 e2 => ?_) (fun hb H2 e2 => ?_)
      · have hb : colText l = false := by simpa using hb
        exact ⟨_, rfl, rfl, rfl, by decide, rr_e1 (Q := E) fun d H' nd sm hd => h2 hb d H' ((e1.trans e2).trans sm) (fresh_back (e1.trans e2) nd) hd⟩
      · have hb : colText l = true := by simpa using hb
        have hall : l.all let1 = true := by
          unfold colText at hb
          simp only [Bool.and_eq_true] at hb
          exact hb.2
        have rng := up_rng hall
        refine q_asg ev_c fun H3 e3 => ?_
        have e03 := (e1.trans e2).trans e3
        refine q_forS (ev_upper (K := K) (ev_var rfl) ha (by omega)) (fun i σ' H' => ∃ lt : Option V, σ' = [some (.str (S l)), some (.int (val ((l.map up).take i))), lt] ∧ Ex H H') (fun H4 e4 => ⟨_, rfl, e03.trans e4⟩) ?_ ?_
        · rintro i c σ' H4 hc ⟨lt, rfl, e4⟩
          have hm := rng c (List.mem_of_getElem? hc)
          have tk : (l.map up).take (i + 1) = (l.map up).take i ++ [c] := by
            rw [List.take_add_one, hc]
            rfl
          refine s_asg (v := .int (val ((l.map up).take (i + 1)))) ?_ fun H5 e5 => ⟨_, rfl, e4.trans e5⟩
          rw [tk, val_snoc]
          exact ev_op (ev_op (ev_op (ev_var rfl) (ev_len26 (K := K) ev_c) (rv_I (.inr ⟨by decide, by decide⟩))) (ev_index (K := K) ev_c (ev_var rfl) hm.1 hm.2) rv_I0) ev_c rv_I0
        · rintro σ' H4 ⟨lt, rfl, e4⟩
          rw [List.take_length]
          exact ⟨_, rfl, h1 hb H4 e4⟩
    · exact ⟨_, rfl, v, n, false, rfl, kn, hk, (fun z => nomatch z), fun _ => h1⟩
end
end K18

set_option Elab.async false
set_option linter.all false
set_option maxRecDepth 100000
set_option maxHeartbeats 4000000
namespace TX
open PySem PySem.Spec PyProof.Rows L2 Pen EV2 Evl LamX
section
variable {K : PySem.W.Frag} {σ : L2.St} {H : Hp} {ta tb tc te : TE} {t : TT} {v : V} {b : Bool} {l : List Nat} {c : Nat}
theorem ev_if (h : EvT t σ H b) (h1 : b = true → Ev ta σ H v) (h2 : b = false → Ev tb σ H v) : Ev (tIf t ta tb) σ H v := fun H1 e Q q =>
  h H1 e _ fun H2 e2 => by
    cases b with
    | true => exact h1 rfl H2 (e.trans e2) Q fun H3 e3 => q H3 (e2.trans e3)
    | false => exact h2 rfl H2 (e.trans e2) Q fun H3 e3 => q H3 (e2.trans e3)
theorem ev_inA (ha : Ev ta σ H (sg c)) (hb : Ev tb σ H (.str A26)) (hc : c < 128) : Ev (tOp rInS ta tb) σ H (.bl (decide (65 ≤ c ∧ c ≤ 90))) := fun H1 e Q q =>
  ha H1 e _ fun H2 e2 => hb H2 (e.trans e2) _ fun H3 e3 => ⟨c, A26, rfl, rfl, by
    rw [in_of c hc]
    exact q H3 (e2.trans e3)⟩
theorem inV_false (f : Nat → Bool) : ∀ l : List Nat, (!inV (.bl false) (l.map fun c => V.bl (f c))) = l.all f
  | [] => rfl
  | c :: l => by
    have ih := inV_false f l
    show (!(eqV (.bl (f c)) (.bl false) || inV (.bl false) (l.map fun c => V.bl (f c)))) = (f c && l.all f)
    rw [← ih]
    cases f c <;> cases inV (.bl false) (l.map fun c => V.bl (f c)) <;> rfl
theorem flat_bls (f : Nat → Bool) : ∀ l : List Nat, (l.map fun c => V.bl (f c)).all flatV = true
  | [] => rfl
  | c :: l => by
    show (flatV (.bl (f c)) && (l.map fun c => V.bl (f c)).all flatV) = true
    rw [flat_bls f l]
    rfl
def rLower : V → List V → Hp → VK → Prop := fun x xs H Q => ∃ a, x = .str a ∧ xs = [] ∧ a.length ≤ 5592405 ∧ Q (.str (Txt.lower a)) H
theorem ev_lower (h : Ev te σ H (sg c)) (hc : c < 128) : Ev (tBM0 K "str" rLower te) σ H (sg (low c)) := fun H1 e Q q =>
  h H1 e _ fun H2 e2 => ⟨rfl, S [c], rfl, rfl, by rw [len_S]; show 1 ≤ 5592405; decide, by rw [low_of c hc]; exact q H2 e2⟩
theorem up_low {c : Nat} (h : 65 ≤ c ∧ c ≤ 90) : up (low c) = c ∧ low c < 128 := by
  unfold up low
  rw [if_pos h, if_pos (by omega)]
  omega
theorem up_cap {c : Nat} (h : 65 ≤ c ∧ c ≤ 90) : up c = c ∧ c < 128 := by
  unfold up
  rw [if_neg (by omega)]
  omega
end
end TX
namespace K18
open PySem PySem.Spec PyProof.Rows L2 Pen EV2 Evl TX LamX
abbrev s_l_signs : Stmt := topS 50
abbrev N_l_signs : List Str := []
abbrev P_l_signs : List Str := []
theorem sc_l_signs : FnScope N_l_signs P_l_signs (defScope s_l_signs) := ⟨rfl, rfl, rfl, by decide +kernel, rfl, by decide +kernel, by decide +kernel⟩
abbrev s_l_letters : Stmt := topS 51
abbrev N_l_letters : List Str := ["_law_column_here", "_law_found", "_law_left", "_law_turn"]
abbrev P_l_letters : List Str := ["_law_column_here"]
theorem sc_l_letters : FnScope N_l_letters P_l_letters (defScope s_l_letters) := ⟨rfl, rfl, rfl, by decide +kernel, rfl, by decide +kernel, by decide +kernel⟩
abbrev s_l_column : Stmt := topS 52
abbrev N_l_column : List Str := ["_law_letters_here", "_law_found", "_law_sign"]
abbrev P_l_column : List Str := ["_law_letters_here"]
theorem sc_l_column : FnScope N_l_column P_l_column (defScope s_l_column) := ⟨rfl, rfl, rfl, by decide +kernel, rfl, by decide +kernel, by decide +kernel⟩
abbrev s_l_is_letters : Stmt := topS 53
abbrev N_l_is_letters : List Str := ["_law_text", "_law_sign"]
abbrev P_l_is_letters : List Str := ["_law_text"]
theorem sc_l_is_letters : FnScope N_l_is_letters P_l_is_letters (defScope s_l_is_letters) := ⟨rfl, rfl, rfl, by decide +kernel, rfl, by decide +kernel, by decide +kernel⟩
abbrev s_l_mixed_case : Stmt := topS 55
abbrev N_l_mixed_case : List Str := ["_law_pen_here", "_law_text", "_law_found", "_law_sign"]
abbrev P_l_mixed_case : List Str := ["_law_pen_here", "_law_text"]
theorem sc_l_mixed_case : FnScope N_l_mixed_case P_l_mixed_case (defScope s_l_mixed_case) := ⟨rfl, rfl, rfl, by decide +kernel, rfl, by decide +kernel, by decide +kernel⟩
abbrev s_l_told : Stmt := topS 58
abbrev N_l_told : List Str := ["_law_call", "_law_told_here", "e"]
abbrev P_l_told : List Str := ["_law_call"]
theorem sc_l_told : FnScope N_l_told P_l_told (defScope s_l_told) := ⟨rfl, rfl, rfl, by decide +kernel, rfl, by decide +kernel, by decide +kernel⟩
structure AdL where
  f_signs : Addr
  d_signs : FuncData
  f_letters : Addr
  d_letters : FuncData
  f_column : Addr
  d_column : FuncData
  f_is_letters : Addr
  d_is_letters : FuncData
  f_mixed_case : Addr
  d_mixed_case : FuncData
  f_pick : Addr
  d_pick : FuncData
  f_draw : Addr
  d_draw : FuncData
  f_pen : Addr
  d_pen : FuncData
structure TxtH (K : PySem.W.Frag) (mg : Str → Option Value) (p : AdL) : Prop where
  n_list : mg "list" = none
  n_int : mg "int" = none
  n_len : mg "len" = none
  n_range : mg "range" = none
  n_min : mg "min" = none
  n_max : mg "max" = none
  n_sorted : mg "sorted" = none
  mg_l_signs : mg "_law_signs" = some (.ref p.f_signs)
  F_l_signs : Fun K "_law_signs" "_law_signs" s_l_signs p.f_signs p.d_signs
  b_l_signs : Binds K p.d_signs P_l_signs []
  mg_l_letters : mg "_law_letters" = some (.ref p.f_letters)
  F_l_letters : Fun K "_law_letters" "_law_letters" s_l_letters p.f_letters p.d_letters
  b_l_letters : Binds K p.d_letters P_l_letters []
  mg_l_column : mg "_law_column" = some (.ref p.f_column)
  F_l_column : Fun K "_law_column" "_law_column" s_l_column p.f_column p.d_column
  b_l_column : Binds K p.d_column P_l_column []
  mg_l_is_letters : mg "_law_is_letters" = some (.ref p.f_is_letters)
  F_l_is_letters : Fun K "_law_is_letters" "_law_is_letters" s_l_is_letters p.f_is_letters p.d_is_letters
  b_l_is_letters : Binds K p.d_is_letters P_l_is_letters []
  mg_l_mixed_case : mg "_law_mixed_case" = some (.ref p.f_mixed_case)
  F_l_mixed_case : Fun K "_law_mixed_case" "_law_mixed_case" s_l_mixed_case p.f_mixed_case p.d_mixed_case
  b_l_mixed_case : Binds K p.d_mixed_case P_l_mixed_case []
  mg_l_pick : mg "_law_pick" = some (.ref p.f_pick)
  F_l_pick : Fun K "_law_pick" "_law_pick" s_l_pick p.f_pick p.d_pick
  b_l_pick : Binds K p.d_pick P_l_pick []
  mg_l_draw : mg "_law_draw" = some (.ref p.f_draw)
  F_l_draw : Fun K "_law_draw" "_law_draw" s_l_draw p.f_draw p.d_draw
  b_l_draw : Binds K p.d_draw P_l_draw []
  mg_l_pen : mg "_law_pen" = some (.ref p.f_pen)
  F_l_pen : Fun K "_law_pen" "_law_pen" s_l_pen p.f_pen p.d_pen
  b_l_pen : Binds K p.d_pen P_l_pen []

def spSigns : Sp := fun vs H Q _ => vs = [] ∧ ∀ H', Same H H' → Q (.str A26) H'
def spLetters : Sp := fun vs H Q _ => ∃ c : Nat, vs = [.int c] ∧ 1 ≤ c ∧ c ≤ 18278 ∧ ∀ H', Same H H' → Q (.str (S (letsF 3 c))) H'
def spColumn : Sp := fun vs H Q _ => ∃ l : List Nat, vs = [.str (S l)] ∧ (∀ c ∈ l, c < 128) ∧ l.length ≤ 1000 ∧ l.all let1 = true ∧ ∀ H', Same H H' → Q (.int (val (l.map up))) H'
/-- capital letters, some of them made small -/
def spMixed : Sp := fun vs H Q _ => ∃ (q c : Addr) (cs : List Int) (i r : Int) (l : List Nat), vs = [.ref q, .str (S l)] ∧ PenAt H q c cs i r ∧ i < 2 ^ 38 ∧ (∀ x ∈ l, 65 ≤ x ∧ x ≤ 90) ∧ l.length ≤ 1000 ∧
  ∀ (m : List Nat) (i' r' : Int) (H' : Hp), m.map up = l → (∀ x ∈ m, x < 128) → i ≤ i' → i' ≤ i + l.length → Sib q H H' → PenAt H' q c cs i' r' → Q (.str (S m)) H'
section
variable {P : Program} {w : World} {K : PySem.W.Frag} {mg : Str → Option Value} {base : Heap} {p : AdL}
theorem ok_l_signs (T : TxtH K mg p) : FnOk P w K mg base CX0 1 p.f_signs p.d_signs P_l_signs spSigns := by
  refine T.F_l_signs.ok sc_l_signs (fun vs H Q E h => ?_) (fun cdv A outer s H vs Q E hr h => ?_)
  · obtain ⟨rfl, _⟩ := h
    rfl
  · obtain ⟨rfl, k⟩ := h
    refine ⟨_, (pss_one (ps_ret pe_str)), ?_⟩
    exact k H (Same.refl H)
theorem ev_signs {σ : L2.St} {H : Hp} : Ev (tCall spSigns [] E0 tNil) σ H (.str A26) := fun H1 e Q q => ⟨rfl, fun H' s => q H' s⟩
theorem ok_l_letters (T : TxtH K mg p) : FnOk P w K mg base CX0 2 p.f_letters p.d_letters P_l_letters spLetters := by
  have G_l_signs : FnOk P w K mg base CX0 1 p.f_signs p.d_signs P_l_signs spSigns := ok_l_signs T
  refine T.F_l_letters.ok sc_l_letters (fun vs H Q E h => ?_) (fun cdv A outer s H vs Q E hr h => ?_)
  · obtain ⟨c, rfl, _⟩ := h
    rfl
  · obtain ⟨c, rfl, c1, c2, k⟩ := h
    refine ⟨_, (pss_cons (ps_par (i := 1) (j := 2) (by rfl) sc_l_letters.nd rfl rfl (by decide) rfl rfl (pa_cons pe_str (pa_cons (pv 0) pa_nil)) (by rfl))
      (pss_cons (ps_for PassesOwn.never rfl (pi_range1 (by rfl) T.n_range (pa_cons pe_int pa_nil)) (pg_name (i := 3) sc_l_letters.nd rfl (Or.inl rfl)) (pss_one (ps_if (pt_cmpR op_gt (pv 2) pe_int (nomark _)) (pss_cons (ps_set (i := 1) sc_l_letters.nd rfl (Or.inl rfl) (pe_op op_add_str (pe_ix ix_str (pe_call0 G_l_signs (hr.mono (by decide)) (by rfl) T.mg_l_signs T.F_l_signs.kp T.b_l_signs .nil pass0) (pe_op op_modN (pe_callTy (T := "int") call_int1 (by rfl) T.n_int (by decide +kernel) (pa_cons (pe_op op_sub (pv 2) pe_int) pa_nil)) pe_int) (fun _ _ => rfl)) (pv 1)))
      (pss_one (ps_set (i := 2) sc_l_letters.nd rfl (Or.inl rfl) (pe_op op_fdivN (pe_op op_sub (pv 2) pe_int) pe_int)))) pss_nil)))
      (pss_one (ps_ret (pv 1))))), ?_⟩
    refine ⟨_, rfl, _, _, rfl, ?_⟩
    dsimp only
    refine q_forR1 (n := 3) (ea_cons ev_c ea_nil) (by decide) (fun i σ' H' => ∃ (l f : Nat) (acc : List Nat) (t : Option V), σ' = [some (.int c), some (.str (S acc)), some (.int l), t] ∧ letsF f l ++ acc = letsF 3 c ∧ l < bnd f ∧ f + i = 3 ∧ Ex H H')
      (fun H1 e1 => ⟨c, 3, [], none, rfl, List.append_nil _, by show c < 18279; omega, rfl, e1⟩) ?_ ?_
    · rintro i σ' H1 hi ⟨l, f, acc, t, rfl, hL, hb, hf, e1⟩
      obtain ⟨f, rfl⟩ : ∃ g, f = g + 1 := ⟨f - 1, by omega⟩
      refine s_when (et_test (ev_op (ev_var rfl) ev_c rv_I0)) (fun ht H2 e2 => ?_) (fun hn H2 e2 => ?_)
      · have hl : (0 : Int) < l := of_decide_eq_true ht
        obtain ⟨n, rfl⟩ : ∃ n, l = n + 1 := ⟨l - 1, by omega⟩
        have hacc : acc.length ≤ 3 := by
          have z := congrArg List.length hL
          rw [List.length_append] at z
          have := lets_len 3 c
          omega
        have hm : n % 26 < 26 := Nat.mod_lt _ (by decide)
        have q1 : (((n + 1 : Nat) : Int) - 1) = n := by omega
        refine q_asg (v := .str (S ([65 + n % 26] ++ acc))) ?hv fun H3 e3 => ?hk
        case hv =>
          refine ev_addS (l := [65 + n % 26]) (m := acc) ?_ (ev_var rfl) (by show 1 + acc.length ≤ 100000; omega)
          refine ev_op ev_signs (ev_op (ev_intI (ev_op (ev_var rfl) ev_c rv_I0)) ev_c (rv_I (by decide))) ?_
          have q2 : (((n + 1 : Nat) : Int) - 1).fmod 26 = ((n % 26 : Nat) : Int) := by
            rw [q1, Int.fmod_eq_emod_of_nonneg _ (by decide)]
            omega
          show RV _ _ (.int ((((n + 1 : Nat) : Int) - 1).fmod 26)) _ _
          rw [q2]
          exact rv_ixS (w := A26) (by decide +kernel) (at_of _ hm)
        case hk =>
          refine s_asg (v := .int ((n / 26 : Nat) : Int)) ?_ fun H4 e4 => ?_
          · have q3 : (((n + 1 : Nat) : Int) - 1).fdiv 26 = ((n / 26 : Nat) : Int) := by
              rw [q1, Int.fdiv_eq_ediv_of_nonneg _ (by decide)]
              omega
            rw [← q3]
            exact ev_op (ev_op (ev_var rfl) ev_c rv_I0) ev_c (rv_I ⟨by decide, by decide⟩)
          · refine ⟨n / 26, f, [65 + n % 26] ++ acc, _, rfl, ?_, bnd_div hb, by omega, (e1.trans e2).trans (e3.trans e4)⟩
            rw [← List.append_assoc, ← lets_succ]
            exact hL
      · have hl : l = 0 := by
          have : ¬ (0 : Int) < l := of_decide_eq_false hn
          omega
        subst hl
        refine ⟨0, f, acc, _, rfl, ?_, ?_, by omega, e1.trans e2⟩
        · rw [lets_zero] at hL ⊢
          exact hL
        · cases f with
          | zero => decide
          | succ g => exact Nat.succ_pos _
    · rintro σ' H1 ⟨l, f, acc, t, rfl, hL, hb, hf, e1⟩
      have hf0 : f = 0 := by
        have : (3 : Int).toNat = 3 := rfl
        omega
      subst hf0
      have hL : acc = letsF 3 c := hL
      subst hL
      exact ⟨_, rfl, k H1 e1⟩
theorem ok_l_column (T : TxtH K mg p) : FnOk P w K mg base CX0 2 p.f_column p.d_column P_l_column spColumn := by
  have G_l_signs : FnOk P w K mg base CX0 1 p.f_signs p.d_signs P_l_signs spSigns := ok_l_signs T
  refine T.F_l_column.ok sc_l_column (fun vs H Q E h => ?_) (fun cdv A outer s H vs Q E hr h => ?_)
  · obtain ⟨l, rfl, _⟩ := h
    rfl
  · obtain ⟨l, rfl, ha, hl, hall, k⟩ := h
    refine ⟨_, (pss_cons (ps_set (i := 1) sc_l_column.nd rfl (Or.inl rfl) pe_int)
      (pss_cons (ps_for PassesOwn.never rfl (pi_str (pe_bm0 (r := rUpper) PySem.F.plainAttrs_str PySem.F.slot_str_upper PySem.F.type_str_upper mt_upper (pv 0))) (pg_name (i := 2) sc_l_column.nd rfl (Or.inl rfl)) (pss_one (ps_set (i := 1) sc_l_column.nd rfl (Or.inl rfl) (pe_op op_add (pe_op op_add (pe_op op_mul (pv 1) pe_int) pe_int) (pe_bmS PySem.F.plainAttrs_str PySem.F.slot_str_index PySem.F.type_str_index (mt_indexX rfl takes_none5) (pe_call0 G_l_signs (hr.mono (by decide)) (by rfl) T.mg_l_signs T.F_l_signs.kp T.b_l_signs .nil pass0) (pa_cons (pv 2) pa_nil))))))
      (pss_one (ps_ret (pv 1))))), ?_⟩
    have rng := up_rng hall
    refine q_asg ev_c fun H0 e0 => ?_
    refine q_forS (ev_upper (K := K) (ev_var rfl) ha (by omega)) (fun i σ' H' => ∃ lt : Option V, σ' = [some (.str (S l)), some (.int (val ((l.map up).take i))), lt] ∧ Ex H H') (fun H4 e4 => ⟨_, rfl, e0.trans e4⟩) ?_ ?_
    · rintro i c σ' H4 hc ⟨lt, rfl, e4⟩
      have hm := rng c (List.mem_of_getElem? hc)
      have tk : (l.map up).take (i + 1) = (l.map up).take i ++ [c] := by
        rw [List.take_add_one, hc]
        rfl
      refine s_asg (v := .int (val ((l.map up).take (i + 1)))) ?_ fun H5 e5 => ⟨_, rfl, e4.trans e5⟩
      have z : val ((l.map up).take (i + 1)) = val ((l.map up).take i) * 26 + 1 + ((c - 65 : Nat) : Int) := by
        rw [tk, val_snoc]
        omega
      rw [z]
      exact ev_op (ev_op (ev_op (ev_var rfl) ev_c (rv_I (.inr ⟨by decide, by decide⟩))) ev_c rv_I0) (ev_index (K := K) ev_signs (ev_var rfl) hm.1 hm.2) rv_I0
    · rintro σ' H4 ⟨lt, rfl, e4⟩
      rw [List.take_length]
      exact ⟨_, rfl, k H4 e4⟩
theorem ok_l_is_letters (T : TxtH K mg p) : FnOk P w K mg base CX0 2 p.f_is_letters p.d_is_letters P_l_is_letters (spAlpha fun l => l.all let1) := by
  have G_l_signs : FnOk P w K mg base CX0 1 p.f_signs p.d_signs P_l_signs spSigns := ok_l_signs T
  refine T.F_l_is_letters.ok sc_l_is_letters (fun vs H Q E h => ?_) (fun cdv A outer s H vs Q E hr h => ?_)
  · obtain ⟨l, rfl, _⟩ := h
    rfl
  · obtain ⟨l, rfl, ha, hl, k⟩ := h
    refine ⟨_, (pss_one (ps_ret (pe_cmpR op_notIn_seq pe_bl (pe_lc (own := [("_law_sign", 1)]) (g := gName 1) (tt := tYes) (te := tOp rInS (tBM0 K "str" rUpper (tVar 1)) (tCall spSigns [] E0 tNil)) rfl sc_l_is_letters.nd (pi_list (pe_callTy (T := "list") (call_listS rfl) (by rfl) T.n_list (by decide +kernel) (pa_cons (pv 0) pa_nil))) (blkOk_by (own := [("_law_sign", 1)]) (N := N_l_is_letters) (sc := defScope s_l_is_letters) (by decide +kernel)) (fun _ _ _ _ _ => pg_name (i := 1) sc_l_is_letters.nd rfl (Or.inl rfl)) (fun _ _ _ _ _ => pts_nil) (fun _ _ _ _ _ => (pe_cmpR (r := rInS) op_inS (pe_bm0 (r := rUpper) PySem.F.plainAttrs_str PySem.F.slot_str_upper PySem.F.type_str_upper mt_upper (pv 1)) (pe_call0 G_l_signs (hr.mono (by decide)) (by rfl) T.mg_l_signs T.F_l_signs.kp T.b_l_signs .nil pass0) rfl))) rfl))), ?_⟩
    have el : EvL (tLc (iList K (tCB rLstS (tCons (tVar 0) tNil))) (gName 1) tYes (tOp rInS (tBM0 K "str" rUpper (tVar 1)) (tCall spSigns [] E0 tNil)) [1]) [some (.str (S l)), none] H (l.map fun c => V.bl (let1 c)) := by
      refine el_eq (el_lcNL (K := K) (xs := l.map sg) (fun _ => true) (fun i => (l[i]?.map fun c => V.bl (let1 c)).getD .non) (el_listS (ev_var rfl) (by omega)) (by rw [List.length_map]; omega) (fun _ => rfl) (fun _ _ _ _ _ => et_yes) fun i x H1 e1 hx _ => ?_) (by rw [List.length_map, given_map])
      rw [List.getElem?_map] at hx
      cases q : l[i]? with
      | none => rw [q] at hx; cases hx
      | some c =>
        rw [q] at hx
        have e2 : sg c = x := Option.some.inj hx
        subst e2
        have hc := ha c (List.mem_of_getElem? q)
        have z := ev_upper (K := K) (σ := [some (.str (S l)), some (sg c)]) (H := H1) (l := [c]) (ev_var (i := 1) rfl) (fun x hx => by rw [List.mem_singleton.mp hx]; exact hc) (by show 1 ≤ 100000; decide)
        exact ev_inA (c := up c) z ev_signs (up_lt hc)
    refine (ev_opL (ev_c (v := .bl false)) el fun p1 H1 h1 _ => rv_niL (K := K) (sq_of h1) rfl (flat_bls let1 l)) H (Ex.refl H) _ fun H' e => ?_
    rw [inV_false]
    exact k H' e
theorem ok_l_mixed_case (T : TxtH K mg p) : FnOk P w K mg base CX0 2 p.f_mixed_case p.d_mixed_case P_l_mixed_case spMixed := by
  have TA : TxtA mg := ⟨T.n_list, T.n_int, T.n_len⟩
  have G_l_draw : FnOk P w K mg base CX0 1 p.f_draw p.d_draw P_l_draw spDraw := ok_l_draw T.F_l_draw TA
  refine T.F_l_mixed_case.ok sc_l_mixed_case (fun vs H Q E h => ?_) (fun cdv A outer s H vs Q E hr h => ?_)
  · obtain ⟨q, c, cs, i, r, l, rfl, _⟩ := h
    rfl
  · obtain ⟨q, c, cs, i, r, l, rfl, D, hi, hc, hl, k⟩ := h
    refine ⟨_, (pss_cons (ps_set (i := 2) sc_l_mixed_case.nd rfl (Or.inl rfl) pe_str)
      (pss_cons (ps_for PassesOwn.never rfl (pi_str (pv 1)) (pg_name (i := 3) sc_l_mixed_case.nd rfl (Or.inl rfl)) (pss_one (ps_set (i := 2) sc_l_mixed_case.nd rfl (Or.inl rfl) (pe_op op_add_str (pv 2) (pe_ifExp (pt_cmpR op_eq (pe_call G_l_draw (hr.mono (by decide)) (by rfl) T.mg_l_draw T.F_l_draw.kp T.b_l_draw .nil pass0 (pa_cons (pv 0) (pa_cons pe_int pa_nil))) pe_int (nomark _)) (pe_bm0 PySem.F.plainAttrs_str PySem.F.slot_str_lower PySem.F.type_str_lower mt_lower (pv 3)) (pv 3))))))
      (pss_one (ps_ret (pv 2))))), ?_⟩
    refine q_asg (v := .str (S [])) ev_c fun H0 e0 => ?_
    refine q_forS (l := l) (ev_var rfl) (fun j σ' H' => ∃ (m : List Nat) (i' r' : Int) (t : Option V), σ' = [some (.ref q), some (.str (S l)), some (.str (S m)), t] ∧ m.map up = l.take j ∧ (∀ x ∈ m, x < 128) ∧ i ≤ i' ∧ i' ≤ i + j ∧ Sib q H H' ∧ PenAt H' q c cs i' r')
      (fun H1 e1 => ⟨[], i, r, none, rfl, rfl, (fun x hx => by cases hx), Int.le_refl _, by omega, fun b o _ h => (e0.trans e1) b o h, D.keep (e0.trans e1)⟩) ?_ ?_
    · rintro j x σ' H1 hx ⟨m, i1, r1, t, rfl, hm, ha, h1, h2, sb, D1⟩
      have hj : j < l.length := (List.getElem?_eq_some_iff.mp hx).1
      have hxr := hc x (List.mem_of_getElem? hx)
      have ml : m.length ≤ j := by
        have z := congrArg List.length hm
        rw [List.length_map, List.length_take] at z
        omega
      refine ⟨_, rfl, _, rfl, q, c, cs, i1, r1, 2, rfl, D1, by omega, by decide, by decide, fun z i2 r2 H2 z0 z1 j0 j1 sb2 D2 => ?_⟩
      refine ⟨rfl, _, rfl, ?_⟩
      have tk : l.take (j + 1) = l.take j ++ [x] := by
        rw [List.take_add_one, hx]
        rfl
      have fin : ∀ y : Nat, up y = x → y < 128 → ∃ (m' : List Nat) (i' r' : Int) (t : Option V), [some (V.ref q), some (.str (S l)), some (.str (S (m ++ [y]))), some (sg x)] = [some (V.ref q), some (.str (S l)), some (.str (S m')), t] ∧ m'.map up = l.take (j + 1) ∧ (∀ x ∈ m', x < 128) ∧ i ≤ i' ∧ i' ≤ i + ((j + 1 : Nat) : Int) ∧ Sib q H H2 ∧ PenAt H2 q c cs i' r' := fun y e1 e2 =>
        ⟨m ++ [y], i2, r2, _, rfl, by rw [List.map_append, hm, tk, ← e1]; rfl, fun u hu => by
          rcases List.mem_append.mp hu with h | h
          · exact ha u h
          · rw [List.mem_singleton.mp h]; exact e2, by omega, by omega, sb.trans sb2, D2⟩
      refine ite2 (fun _ => ?_) (fun _ => ?_)
      · have u := up_low hxr
        have g := fin (low x) u.1 u.2
        refine ⟨_, rfl, rfl, S [x], rfl, rfl, by rw [len_S]; show 1 ≤ 5592405; decide, S m, _, rfl, rfl, ?_, ?_⟩
        · rw [low_of x (by omega), len_S, len_S]
          exact sz_of (by show m.length + 1 ≤ 100000; omega)
        · rw [low_of x (by omega), app_S]
          exact g
      · have u := up_cap hxr
        have g := fin x u.1 u.2
        refine ⟨_, rfl, S m, S [x], rfl, rfl, ?_, ?_⟩
        · rw [len_S, len_S]
          exact sz_of (by show m.length + 1 ≤ 100000; omega)
        · rw [app_S]
          exact g
    · rintro σ' H1 ⟨m, i1, r1, t, rfl, hm, ha, h1, h2, sb, D1⟩
      rw [List.take_length] at hm
      exact ⟨_, rfl, k m i1 r1 H1 hm ha h1 h2 sb D1⟩
end
end K18

set_option Elab.async false
set_option linter.all false
set_option maxRecDepth 100000
set_option maxHeartbeats 4000000
namespace K18
open PySem PySem.Spec PyProof.Rows L2 Pen EV2 Evl TX LamX
abbrev s_check_integer : Stmt := topS 9
abbrev N_check_integer : List Str := ["value"]
abbrev P_check_integer : List Str := ["value"]
theorem sc_check_integer : FnScope N_check_integer P_check_integer (defScope s_check_integer) := ⟨rfl, rfl, rfl, by decide +kernel, rfl, by decide +kernel, by decide +kernel⟩
abbrev s_check_truth : Stmt := topS 11
abbrev N_check_truth : List Str := ["value"]
abbrev P_check_truth : List Str := ["value"]
theorem sc_check_truth : FnScope N_check_truth P_check_truth (defScope s_check_truth) := ⟨rfl, rfl, rfl, by decide +kernel, rfl, by decide +kernel, by decide +kernel⟩
abbrev s_is_on_grid : Stmt := topS 24
abbrev N_is_on_grid : List Str := ["row", "column"]
abbrev P_is_on_grid : List Str := ["row", "column"]
theorem sc_is_on_grid : FnScope N_is_on_grid P_is_on_grid (defScope s_is_on_grid) := ⟨rfl, rfl, rfl, by decide +kernel, rfl, by decide +kernel, by decide +kernel⟩
abbrev s_is_sheet_name : Stmt := topS 26
abbrev N_is_sheet_name : List Str := ["name"]
abbrev P_is_sheet_name : List Str := ["name"]
theorem sc_is_sheet_name : FnScope N_is_sheet_name P_is_sheet_name (defScope s_is_sheet_name) := ⟨rfl, rfl, rfl, by decide +kernel, rfl, by decide +kernel, by decide +kernel⟩
abbrev s_small_letters : Stmt := topS 14
abbrev N_small_letters : List Str := ["text", "sign"]
abbrev P_small_letters : List Str := ["text"]
theorem sc_small_letters : FnScope N_small_letters P_small_letters (defScope s_small_letters) := ⟨rfl, rfl, rfl, by decide +kernel, rfl, by decide +kernel, by decide +kernel⟩
abbrev s_alike_sheets : Stmt := topS 27
abbrev N_alike_sheets : List Str := ["one", "other"]
abbrev P_alike_sheets : List Str := ["one", "other"]
theorem sc_alike_sheets : FnScope N_alike_sheets P_alike_sheets (defScope s_alike_sheets) := ⟨rfl, rfl, rfl, by decide +kernel, rfl, by decide +kernel, by decide +kernel⟩
abbrev s_is_row_text : Stmt := topS 30
abbrev N_is_row_text : List Str := ["text"]
abbrev P_is_row_text : List Str := ["text"]
theorem sc_is_row_text : FnScope N_is_row_text P_is_row_text (defScope s_is_row_text) := ⟨rfl, rfl, rfl, by decide +kernel, rfl, by decide +kernel, by decide +kernel⟩
abbrev s_split_cell : Stmt := topS 31
abbrev N_split_cell : List Str := ["text", "fixed_column", "column", "many", "row"]
abbrev P_split_cell : List Str := ["text"]
theorem sc_split_cell : FnScope N_split_cell P_split_cell (defScope s_split_cell) := ⟨rfl, rfl, rfl, by decide +kernel, rfl, by decide +kernel, by decide +kernel⟩
structure AdG where
  f_check_integer : Addr
  d_check_integer : FuncData
  f_check_truth : Addr
  d_check_truth : FuncData
  f_is_on_grid : Addr
  d_is_on_grid : FuncData
  f_is_sheet_name : Addr
  d_is_sheet_name : FuncData
  f_small_letters : Addr
  d_small_letters : FuncData
  f_alike_sheets : Addr
  d_alike_sheets : FuncData
  f_is_row_text : Addr
  d_is_row_text : FuncData
  f_split_cell : Addr
  d_split_cell : FuncData
structure TxtG (K : PySem.W.Frag) (mg : Str → Option Value) (p : AdG) : Prop where
  mg_ROWS : ∃ t, mg "ROWS" = some (.int 1000000 t)
  mg_check_integer : mg "check_integer" = some (.ref p.f_check_integer)
  F_check_integer : Fun K "check_integer" "check_integer" s_check_integer p.f_check_integer p.d_check_integer
  b_check_integer : Binds K p.d_check_integer P_check_integer []
  mg_check_truth : mg "check_truth" = some (.ref p.f_check_truth)
  F_check_truth : Fun K "check_truth" "check_truth" s_check_truth p.f_check_truth p.d_check_truth
  b_check_truth : Binds K p.d_check_truth P_check_truth []
  mg_is_on_grid : mg "is_on_grid" = some (.ref p.f_is_on_grid)
  F_is_on_grid : Fun K "is_on_grid" "is_on_grid" s_is_on_grid p.f_is_on_grid p.d_is_on_grid
  b_is_on_grid : Binds K p.d_is_on_grid P_is_on_grid []
  mg_is_sheet_name : mg "is_sheet_name" = some (.ref p.f_is_sheet_name)
  F_is_sheet_name : Fun K "is_sheet_name" "is_sheet_name" s_is_sheet_name p.f_is_sheet_name p.d_is_sheet_name
  b_is_sheet_name : Binds K p.d_is_sheet_name P_is_sheet_name []
  mg_small_letters : mg "small_letters" = some (.ref p.f_small_letters)
  F_small_letters : Fun K "small_letters" "small_letters" s_small_letters p.f_small_letters p.d_small_letters
  b_small_letters : Binds K p.d_small_letters P_small_letters []
  mg_alike_sheets : mg "alike_sheets" = some (.ref p.f_alike_sheets)
  F_alike_sheets : Fun K "alike_sheets" "alike_sheets" s_alike_sheets p.f_alike_sheets p.d_alike_sheets
  b_alike_sheets : Binds K p.d_alike_sheets P_alike_sheets []
  mg_is_row_text : mg "is_row_text" = some (.ref p.f_is_row_text)
  F_is_row_text : Fun K "is_row_text" "is_row_text" s_is_row_text p.f_is_row_text p.d_is_row_text
  b_is_row_text : Binds K p.d_is_row_text P_is_row_text []
  mg_split_cell : mg "split_cell" = some (.ref p.f_split_cell)
  F_split_cell : Fun K "split_cell" "split_cell" s_split_cell p.f_split_cell p.d_split_cell
  b_split_cell : Binds K p.d_split_cell P_split_cell []

def spInt (K : PySem.W.Frag) (CB : Addr) : Sp := fun vs H Q E => ∃ (v : V) (n : String) (g : Bool), vs = [v] ∧ Knd K H v n ∧ goodK n g ∧ (g = true → ∀ H', Same H H' → Q .non H') ∧ (g = false → bad CB "value" H v E)
def spTruth (K : PySem.W.Frag) (CB : Addr) : Sp := fun vs H Q E => ∃ (v : V) (n : String) (g : Bool), vs = [v] ∧ Knd K H v n ∧ kitB n "bool" = some g ∧ (g = true → ∀ H', Same H H' → Q .non H') ∧ (g = false → bad CB "value" H v E)
def gridOk (r c : Int) : Bool := decide (1 ≤ r ∧ r ≤ 1000000) && decide (1 ≤ c ∧ c ≤ 18278)
def spGrid : Sp := fun vs H Q _ => ∃ r c : Int, vs = [.int r, .int c] ∧ ∀ H', Same H H' → Q (.bl (gridOk r c)) H'
def spSheetName (K : PySem.W.Frag) : Sp := fun vs H Q _ => ∃ v : V, vs = [v] ∧ ((∃ l : List Nat, v = .str (S l) ∧ (∀ c ∈ l, c < 128) ∧ l.length ≤ 1000 ∧ ∀ H', Same H H' → Q (.bl (sheetOk l)) H') ∨ (∃ n : String, Knd K H v n ∧ kitB n "str" = some false ∧ ∀ H', Same H H' → Q (.bl false) H'))
def spSmall : Sp := fun vs H Q _ => ∃ l : List Nat, vs = [.str (S l)] ∧ (∀ c ∈ l, c < 128) ∧ l.length ≤ 1000 ∧ ∀ H', Same H H' → Q (.str (S (l.map low))) H'
/-- a sheet or none -/
def shV : Option (List Nat) → V
  | none => .non
  | some l => .str (S l)
def shOk : Option (List Nat) → Prop
  | none => True
  | some l => (∀ c ∈ l, c < 128) ∧ l.length ≤ 1000
def alike : Option (List Nat) → Option (List Nat) → Bool
  | none, none => true
  | some a, some b => decide (a.map low = b.map low)
  | _, _ => false
def spAlike : Sp := fun vs H Q _ => ∃ a b : Option (List Nat), vs = [shV a, shV b] ∧ shOk a ∧ shOk b ∧ ∀ H', Same H H' → Q (.bl (alike a b)) H'
def spSplit : Sp := fun vs H Q _ => ∃ l : List Nat, vs = [.str (S l)] ∧ (∀ c ∈ l, c < 128) ∧ l.length ≤ 1000 ∧ ∀ t H', H t = none → Same H H' → H' t = some (.tup [.str (S (cellParts l).1), .bl (cellParts l).2.1, .str (S (cellParts l).2.2.1), .bl (cellParts l).2.2.2]) → Q (.ref t) H'
section
variable {P : Program} {w : World} {K : PySem.W.Frag} {mg : Str → Option Value} {base : Heap} {pc : Ads} {p : AdG} {σ : L2.St} {H : Hp} {ta tb te : TE}
theorem ok_check_integer (TC : TxtC K mg pc) (T : TxtG K mg p) : FnOk P w K mg base (L2.CX P w) 3 p.f_check_integer p.d_check_integer P_check_integer (spInt K pc.CB) := by
  have G_is_integer : FnOk P w K mg base CX0 1 pc.f_is_integer pc.d_is_integer P_is_integer (spIsInt K) := ok_is_integer TC
  refine T.F_check_integer.okX sc_check_integer (fun vs H Q E h => ?_) (fun cdv A outer s H vs Q E hr h => ?_)
  · obtain ⟨v, n, g, rfl, _⟩ := h
    rfl
  · obtain ⟨v, n, g, rfl, kn, hg, h1, h2⟩ := h
    refine ⟨_, (pss_one (ps_if (pt_not (pt_val (pe_call G_is_integer (hr.mono (by decide)) (by rfl) TC.mg_is_integer TC.F_is_integer.kp TC.b_is_integer .nil pass0 (pa_cons (pv 0) pa_nil)))) (pss_one (ps_raise rfl (takes_of rfl rfl rfl rfl) (pmk_R (n := 1) TC.BadValue.ec (ok_BadValue_init TC.BadValue.F TC.BadValue.ec.ox TC.BadValue.no) (hr.mono (by decide)) (by rfl) TC.BadValue.gC (kp_BadValue_init TC.BadValue.F) hx0 (pa_cons (pv 0) pa_nil)))) pss_nil)), ?_⟩
    have ei : Ev (tCall (spIsInt K) [] E0 (tCons (tVar 0) tNil)) [some v] H (.bl g) := fun H1 e Q q => ⟨_, rfl, v, n, g, rfl, kn.ext e, hg, fun H' s => q H' s⟩
    cases g with
    | true => exact s_when (b := false) (et_is (et_not (et_B ei)) rfl) (fun z => nomatch z) fun _ H1 e1 => h1 rfl H1 e1
    | false =>
      refine s_when (b := true) (et_is (et_not (et_B ei)) rfl) (fun _ H1 e1 => ?_) fun z => nomatch z
      exact ⟨_, rfl, rfl, rfl, by decide, rr_e1 (Q := E) fun d H' nd sm hd => h2 rfl d H' (e1.trans sm) (fresh_back e1 nd) hd⟩
theorem ok_check_truth (TC : TxtC K mg pc) (T : TxtG K mg p) : FnOk P w K mg base (L2.CX P w) 3 p.f_check_truth p.d_check_truth P_check_truth (spTruth K pc.CB) := by
  refine T.F_check_truth.okX sc_check_truth (fun vs H Q E h => ?_) (fun cdv A outer s H vs Q E hr h => ?_)
  · obtain ⟨v, n, g, rfl, _⟩ := h
    rfl
  · obtain ⟨v, n, g, rfl, kn, hk, h1, h2⟩ := h
    refine ⟨_, (pss_one (ps_if (pt_not (pt_val (pe_callB (id := "isinstance") call_isi (by rfl) TC.n_isinstance (by decide +kernel) (pa_cons (pv 0) (pa_cons (pe_bltn (v := .ty "bool") (by rfl) TC.n_bool (by decide +kernel) rfl) pa_nil))))) (pss_one (ps_raise rfl (takes_of rfl rfl rfl rfl) (pmk_R (n := 1) TC.BadValue.ec (ok_BadValue_init TC.BadValue.F TC.BadValue.ec.ox TC.BadValue.no) (hr.mono (by decide)) (by rfl) TC.BadValue.gC (kp_BadValue_init TC.BadValue.F) hx0 (pa_cons (pv 0) pa_nil)))) pss_nil)), ?_⟩
    have ei := ev_isi (σ := [some v]) kn hk (ev_var (i := 0) rfl)
    cases g with
    | true => exact s_when (b := false) (et_is (et_not (et_B ei)) rfl) (fun z => nomatch z) fun _ H1 e1 => h1 rfl H1 e1
    | false =>
      refine s_when (b := true) (et_is (et_not (et_B ei)) rfl) (fun _ H1 e1 => ?_) fun z => nomatch z
      exact ⟨_, rfl, rfl, rfl, by decide, rr_e1 (Q := E) fun d H' nd sm hd => h2 rfl d H' (e1.trans sm) (fresh_back e1 nd) hd⟩
/-- lo <= x <= hi -/
theorem ev_between {x lo hi : Int} (ha : Ev ta σ H (.int lo)) (hb : Ev tb σ H (.int x)) (hc : Ev te σ H (.int hi)) : Ev (tChain (rI0 fun i j => .bl (decide (i ≤ j))) (rI0 fun i j => .bl (decide (i ≤ j))) ta tb te) σ H (.bl (decide (lo ≤ x ∧ x ≤ hi))) := by
  refine ev_chain (k := decide (lo ≤ x)) ha hb rv_I0 (fun h1 => ⟨hc, fun H1 e Q q => ⟨_, _, rfl, rfl, ?g1⟩⟩) (fun h0 => ?g2)
  case g1 =>
    have h2 : lo ≤ x := of_decide_eq_true h1
    have z : decide (x ≤ hi) = decide (lo ≤ x ∧ x ≤ hi) := decide_eq_decide.mpr (by omega)
    show Q (.bl (decide (x ≤ hi))) H1
    rw [z]
    exact q H1 (Ex.refl H1)
  case g2 =>
    have h2 : ¬ lo ≤ x := of_decide_eq_false h0
    rw [decide_eq_false (show ¬ (lo ≤ x ∧ x ≤ hi) by omega)]
theorem ok_is_on_grid (TC : TxtC K mg pc) (T : TxtG K mg p) : FnOk P w K mg base CX0 1 p.f_is_on_grid p.d_is_on_grid P_is_on_grid spGrid := by
  obtain ⟨tC, hCOL⟩ := TC.mg_COLUMNS
  obtain ⟨tR, hROW⟩ := T.mg_ROWS
  refine T.F_is_on_grid.ok sc_is_on_grid (fun vs H Q E h => ?_) (fun cdv A outer s H vs Q E hr h => ?_)
  · obtain ⟨r, c, rfl, _⟩ := h
    rfl
  · obtain ⟨r, c, rfl, k⟩ := h
    refine ⟨_, (pss_one (ps_ret (pe_and (pe_chain op_le op_le pe_int (pv 0) (pe_glob (v := .int 1000000) (by rfl) hROW ⟨_, rfl⟩)) (pe_one (pe_chain op_le op_le pe_int (pv 1) (pe_glob (v := .int 18278) (by rfl) hCOL ⟨_, rfl⟩)))))), ?_⟩
    exact (ev_andV (ev_between ev_c (ev_var rfl) ev_c) fun _ => ev_between ev_c (ev_var rfl) ev_c) H (Ex.refl H) _ fun H' e => k H' e
theorem ok_is_sheet_name (TC : TxtC K mg pc) (T : TxtG K mg p) : FnOk P w K mg base CX0 1 p.f_is_sheet_name p.d_is_sheet_name P_is_sheet_name (spSheetName K) := by
  refine T.F_is_sheet_name.ok sc_is_sheet_name (fun vs H Q E h => ?_) (fun cdv A outer s H vs Q E hr h => ?_)
  · obtain ⟨v, rfl, _⟩ := h
    rfl
  · obtain ⟨v, rfl, h⟩ := h
    refine ⟨_, (pss_cons (ps_if (PW.pt (pw_or (pt_not (pt_val (pe_callB (id := "isinstance") call_isi (by rfl) TC.n_isinstance (by decide +kernel) (pa_cons (pv 0) (pa_cons (pe_bltn (v := .ty "str") (by rfl) TC.n_str (by decide +kernel) rfl) pa_nil))))) (pw_or (pt_cmpR op_lt (pe_callB (id := "len") call_len (by rfl) TC.n_len (by decide +kernel) (pa_cons (pv 0) pa_nil)) pe_int (nomark _)) (pw_or1 (pt_cmpR op_gt (pe_callB (id := "len") call_len (by rfl) TC.n_len (by decide +kernel) (pa_cons (pv 0) pa_nil)) pe_int (nomark _)))))) (pss_one (ps_ret pe_bl)) pss_nil)
      (pss_one (ps_ret (pe_and (pe_bm0 PySem.F.plainAttrs_str PySem.F.slot_str_isascii PySem.F.type_str_isascii mt_isascii (pv 0)) (pe_and (pe_bm0 PySem.F.plainAttrs_str PySem.F.slot_str_isalnum PySem.F.type_str_isalnum mt_isalnum (pv 0)) (pe_one (pe_bm0 PySem.F.plainAttrs_str PySem.F.slot_str_isalpha PySem.F.type_str_isalpha mt_isalpha (pe_ix ix_str (pv 0) pe_int (fun _ _ => rfl))))))))), ?_⟩
    rcases h with ⟨l, rfl, ha, hl, k⟩ | ⟨n, kn, hk, k⟩
    · refine q_when (et_or (et_not (et_B (ev_isi (K := K) (b := true) knd_str (by decide +kernel) (ev_var rfl)))) fun _ => et_or (et_test (ev_op (ev_lenS (K := K) (ev_var rfl) (by omega)) ev_c rv_I0)) fun _ => et_test (ev_op (ev_lenS (K := K) (ev_var rfl) (by omega)) ev_c rv_I0)) (fun hb H1 e1 => ?_) (fun hb H1 e1 => ?_)
      · have z : sheetOk l = false := by
          have hb : (false || (decide ((l.length : Int) < 1) || decide ((12 : Int) < l.length))) = true := hb
          simp only [Bool.false_or, Bool.or_eq_true, decide_eq_true_eq] at hb
          unfold sheetOk
          rcases hb with h | h
          · rw [decide_eq_false (show ¬ 1 ≤ l.length by omega)]
            rfl
          · rw [decide_eq_false (show ¬ l.length ≤ 12 by omega)]
            simp
        have g := k H1 e1
        rw [z] at g
        exact g
      · have hb : (false || (decide ((l.length : Int) < 1) || decide ((12 : Int) < l.length))) = false := hb
        simp only [Bool.false_or, Bool.or_eq_false_iff, decide_eq_false_iff_not] at hb
        cases l with
        | nil => exact absurd hb.1 (by decide)
        | cons c l =>
          have hc := ha c (List.mem_cons_self ..)
          have e0 : Ev (tOp rIxS (tVar 0) (tC (.int 0))) [some (.str (S (c :: l)))] H1 (.str (S [c])) := ev_at (l := c :: l) (i := 0) (ev_var rfl) ev_c rfl (by omega)
          refine (ev_andV (ev_isascii (K := K) (l := c :: l) (ev_var rfl) ha) fun _ => ev_andV (ev_isalnum (K := K) (l := c :: l) (ev_var rfl) ha) fun _ => ev_isalpha (K := K) (l := [c]) e0 (fun x hx => by rw [List.mem_singleton.mp hx]; exact hc)) H1 (Ex.refl H1) _ fun H2 e2 => ?_
          have g := k H2 (e1.trans e2)
          have z : sheetOk (c :: l) = (true && (decide (0 < (c :: l).length) && (c :: l).all aln1 && (decide (0 < [c].length) && [c].all let1))) := by
            have z1 : 1 ≤ (c :: l).length := by simp
            have z2 : (c :: l).length ≤ 12 := by omega
            unfold sheetOk
            rw [decide_eq_true z1, decide_eq_true z2, decide_eq_true (show 0 < (c :: l).length from z1)]
            simp
          rw [z] at g
          exact g
    · refine q_when (b := true) (et_is (et_or (b := true) (et_not (et_B (ev_isi (K := K) (b := false) kn hk (ev_var rfl)))) fun z => nomatch z) rfl) (fun _ H1 e1 => k H1 e1) fun z => nomatch z
theorem ok_small_letters (TC : TxtC K mg pc) (T : TxtG K mg p) : FnOk P w K mg base CX0 4 p.f_small_letters p.d_small_letters P_small_letters spSmall := by
  have G_check_string : FnOk P w K mg base (L2.CX P w) 3 pc.f_check_string pc.d_check_string P_check_string (spString K pc.CB) := ok_check_string TC
  refine T.F_small_letters.ok sc_small_letters (fun vs H Q E h => ?_) (fun cdv A outer s H vs Q E hr h => ?_)
  · obtain ⟨l, rfl, _⟩ := h
    rfl
  · obtain ⟨l, rfl, ha, hl, k⟩ := h
    refine ⟨_, (pss_cons (ps_expr (pe_call G_check_string (hr.mono (by decide)) (by rfl) TC.mg_check_string TC.F_check_string.kp TC.b_check_string .nil passL (pa_cons (pv 0) pa_nil)))
      (pss_cons (ps_if (pt_val (pe_bm0 PySem.F.plainAttrs_str PySem.F.slot_str_isascii PySem.F.type_str_isascii mt_isascii (pv 0))) (pss_one (ps_ret (pe_bm0 PySem.F.plainAttrs_str PySem.F.slot_str_lower PySem.F.type_str_lower mt_lower (pv 0)))) pss_nil)
      (pss_one (ps_ret (pe_join pe_str (pe_lc (own := [("sign", 1)]) (g := gName 1) (tt := tYes) (te := tIf (tB (tBM0 K "str" (fun x xs H Q => ∃ a, x = .str a ∧ xs = [] ∧ True ∧ Q (.bl (Txt.isascii a)) H) (tVar 1))) (tBM0 K "str" rLower (tVar 1)) (tVar 1)) rfl sc_small_letters.nd (pi_str (pv 0)) (blkOk_by (own := [("sign", 1)]) (N := N_small_letters) (sc := defScope s_small_letters) (by decide +kernel)) (fun _ _ _ _ _ => pg_name (i := 1) sc_small_letters.nd rfl (Or.inl rfl)) (fun _ _ _ _ _ => pts_nil) (fun _ _ _ _ _ => (pe_ifExp (pt_val (pe_bm0 PySem.F.plainAttrs_str PySem.F.slot_str_isascii PySem.F.type_str_isascii mt_isascii (pv 1))) (pe_bm0 PySem.F.plainAttrs_str PySem.F.slot_str_lower PySem.F.type_str_lower mt_lower (pv 1)) (pv 1))))))))), ?_⟩
    refine q_drop (v := .non) (fun H1 e Q q => ⟨_, rfl, .str (S l), "str", true, rfl, knd_str, by decide +kernel, fun _ H' s => q H' s, fun z => nomatch z⟩) fun H1 e1 => ?_
    refine q_when (b := true) (et_B (ev_isascii (K := K) (ev_var rfl) ha)) (fun _ H2 e2 => ?_) fun z => nomatch z
    exact ⟨_, rfl, rfl, S l, rfl, rfl, by rw [len_S]; omega, by rw [lower_S ha]; exact k H2 (e1.trans e2)⟩
theorem ok_alike_sheets (TC : TxtC K mg pc) (T : TxtG K mg p) : FnOk P w K mg base CX0 5 p.f_alike_sheets p.d_alike_sheets P_alike_sheets spAlike := by
  have G_small_letters : FnOk P w K mg base CX0 4 p.f_small_letters p.d_small_letters P_small_letters spSmall := ok_small_letters TC T
  refine T.F_alike_sheets.ok sc_alike_sheets (fun vs H Q E h => ?_) (fun cdv A outer s H vs Q E hr h => ?_)
  · obtain ⟨a, b, rfl, _⟩ := h
    rfl
  · obtain ⟨a, b, rfl, ha, hb, k⟩ := h
    refine ⟨_, (pss_cons (ps_if (PW.pt (pw_or (pt_cmpR op_isN1 (pv 0) pe_non (nomark _)) (pw_or1 (pt_cmpR op_isN1 (pv 1) pe_non (nomark _))))) (pss_one (ps_ret (pe_and (pe_cmpR op_isN1 (pv 0) pe_non (nomark _)) (pe_one (pe_cmpR op_isN1 (pv 1) pe_non (nomark _)))))) pss_nil)
      (pss_one (ps_ret (pe_cmpR op_eq (pe_call G_small_letters (hr.mono (by decide)) (by rfl) T.mg_small_letters T.F_small_letters.kp T.b_small_letters .nil pass0 (pa_cons (pv 0) pa_nil)) (pe_call G_small_letters (hr.mono (by decide)) (by rfl) T.mg_small_letters T.F_small_letters.kp T.b_small_letters .nil pass0 (pa_cons (pv 1) pa_nil)) (nomark _))))), ?_⟩
    have en : ∀ {σ : L2.St} {H : Hp} {te : TE} {v : V}, Ev te σ H v → Ev (tOp rIsN te (tC .non)) σ H (.bl (decide (v = .non))) := fun h => ev_op h ev_c fun H1 _ Q q => ⟨rfl, q H1 (Ex.refl H1)⟩
    refine q_when (et_or (et_test (en (ev_var rfl))) fun _ => et_test (en (ev_var rfl))) (fun hc H1 e1 => ?_) (fun hc H1 e1 => ?_)
    · refine (ev_andV (en (ev_var rfl)) fun _ => en (ev_var rfl)) H1 (Ex.refl H1) _ fun H2 e2 => ?_
      have z : (decide (shV a = .non) && decide (shV b = .non)) = alike a b := by
        cases a <;> cases b <;> first | rfl | (exact absurd hc (by decide)) | simp [shV, alike] | skip
        all_goals
          exfalso
          simp [shV] at hc
      rw [z]
      exact k H2 (e1.trans e2)
    · cases a with
      | none => simp [shV] at hc
      | some a =>
        cases b with
        | none => simp [shV] at hc
        | some b =>
          have es : ∀ {σ : L2.St} {te : TE} {l : List Nat}, Ev te σ H1 (.str (S l)) → (∀ c ∈ l, c < 128) → l.length ≤ 1000 → Ev (tCall spSmall [] E0 (tCons te tNil)) σ H1 (.str (S (l.map low))) := fun h h1 h2 H3 e Q q => h H3 e _ fun H4 e4 => ⟨_, rfl, h1, h2, fun H' s => q H' (e4.trans s)⟩
          refine (ev_op (es (ev_var rfl) ha.1 ha.2) (es (ev_var rfl) hb.1 hb.2) (rv_eq rfl)) H1 (Ex.refl H1) _ fun H2 e2 => ?_
          have z : decide (V.str (S (a.map low)) = V.str (S (b.map low))) = alike (some a) (some b) := decide_eq_decide.mpr ⟨fun q => S_inj (V.str.inj q), fun q => by rw [q]⟩
          rw [z]
          exact k H2 (e1.trans e2)
theorem ok_is_row_text (TC : TxtC K mg pc) (T : TxtG K mg p) : FnOk P w K mg base CX0 1 p.f_is_row_text p.d_is_row_text P_is_row_text (spAlpha rowText) := by
  obtain ⟨tR, hROW⟩ := T.mg_ROWS
  refine T.F_is_row_text.ok sc_is_row_text (fun vs H Q E h => ?_) (fun cdv A outer s H vs Q E hr h => ?_)
  · obtain ⟨l, rfl, _⟩ := h
    rfl
  · obtain ⟨l, rfl, ha, hl, k⟩ := h
    refine ⟨_, (pss_cons (ps_if (PW.pt (pw_or (pt_cmpR op_gt (pe_callB (id := "len") call_len (by rfl) TC.n_len (by decide +kernel) (pa_cons (pv 0) pa_nil)) (pe_callB (id := "len") call_len (by rfl) TC.n_len (by decide +kernel) (pa_cons (pe_callTy (T := "str") call_str_int (by rfl) TC.n_str (by decide +kernel) (pa_cons (pe_glob (v := .int 1000000) (by rfl) hROW ⟨_, rfl⟩) pa_nil)) pa_nil)) (nomark _)) (pw_or (pt_not (pt_val (pe_bm0 PySem.F.plainAttrs_str PySem.F.slot_str_isascii PySem.F.type_str_isascii mt_isascii (pv 0)))) (pw_or1 (pt_not (pt_val (pe_bm0 PySem.F.plainAttrs_str PySem.F.slot_str_isdigit PySem.F.type_str_isdigit mt_isdigit (pv 0)))))))) (pss_one (ps_ret pe_bl)) pss_nil)
      (pss_one (ps_ret (pe_and (pe_cmpR op_ne (pe_ix ix_str (pv 0) pe_int (fun _ _ => rfl)) pe_str (nomark _)) (pe_one (pe_cmpR op_le (pe_callTy (T := "int") call_int_str (by rfl) TC.n_int (by decide +kernel) (pa_cons (pv 0) pa_nil)) (pe_glob (v := .int 1000000) (by rfl) hROW ⟨_, rfl⟩) (nomark _))))))), ?_⟩
    have e7 : ∀ {σ : L2.St} {H : Hp}, Ev (tCB (rLenX K) (tCons (tCB (fun xs H Q => ∃ i, xs = [V.int i] ∧ i.natAbs.log2 < 1920 ∧ Q (.str (toString i)) H) (tCons (tC (.int 1000000)) tNil)) tNil)) σ H (.int 7) := fun H1 e Q q =>
      ⟨_, rfl, by decide +kernel, _, 7, rfl, ⟨by decide +kernel, by decide +kernel⟩, q H1 (Ex.refl H1)⟩
    refine q_when (et_or (et_test (ev_op (ev_lenS (K := K) (ev_var rfl) (by omega)) e7 rv_I0)) fun _ => et_or (et_not (et_B (ev_isascii (K := K) (ev_var rfl) ha))) fun _ => et_not (et_B (ev_isdigit (K := K) (ev_var rfl) ha))) (fun hb H1 e1 => ?_) (fun hb H1 e1 => ?_)
    · have hb : (decide ((7 : Int) < l.length) || (false || !(decide (0 < l.length) && l.all dig1))) = true := hb
      have z : rowText l = false := by
        unfold rowText
        simp only [Bool.false_or, Bool.or_eq_true, decide_eq_true_eq, Bool.not_eq_true', Bool.and_eq_false_iff, decide_eq_false_iff_not] at hb
        rcases hb with h | h | h
        · rw [decide_eq_false (show ¬ l.length ≤ 7 by omega)]
          simp
        · rw [decide_eq_false (show ¬ 1 ≤ l.length by omega)]
          rfl
        · rw [h]
          simp
      have g := k H1 e1
      rw [z] at g
      exact g
    · have hb : (decide ((7 : Int) < l.length) || (false || !(decide (0 < l.length) && l.all dig1))) = false := hb
      simp only [Bool.false_or, Bool.or_eq_false_iff, decide_eq_false_iff_not, Bool.not_eq_false', Bool.and_eq_true, decide_eq_true_eq] at hb
      obtain ⟨b1, b2, b3⟩ := hb
      cases l with
      | nil => exact absurd b2 (by decide)
      | cons c l =>
        have e0 : Ev (tOp rIxS (tVar 0) (tC (.int 0))) [some (.str (S (c :: l)))] H1 (.str (S [c])) := ev_at (l := c :: l) (i := 0) (ev_var rfl) ev_c rfl (by omega)
        have ed : PySem.intText? (S (c :: l)) = some ((NumText.digitsVal (c :: l) : Nat) : Int) := by
          have z := PySem.intText_digits (x := S (c :: l)) (by rw [toList_S]; intro d hd; exact of_decide_eq_true (List.all_eq_true.mp b3 d hd)) (by rw [toList_S]; simp) (by rw [len_S]; omega)
          rw [toList_S] at z
          exact z
        have ei : Ev (tCB (fun xs H Q => ∃ a n, xs = [V.str a] ∧ PySem.intText? a = some n ∧ a.length ≤ 640 ∧ Q (.int n) H) (tCons (tVar 0) tNil)) [some (.str (S (c :: l)))] H1 (.int (NumText.digitsVal (c :: l) : Nat)) := fun H2 e Q q => ⟨_, rfl, _, _, rfl, ed, by rw [len_S]; omega, q H2 (Ex.refl H2)⟩
        refine (ev_andV (ev_op e0 ev_c (rv_ne rfl)) fun _ => ev_op ei ev_c rv_I0) H1 (Ex.refl H1) _ fun H2 e2 => ?_
        have z : rowText (c :: l) = (!decide (V.str (S [c]) = V.str (Str.ofString "0")) && decide (((NumText.digitsVal (c :: l) : Nat) : Int) ≤ 1000000)) := by
          have z1 : 1 ≤ (c :: l).length := by simp
          have z2 : (c :: l).length ≤ 7 := by omega
          have z3 : decide (V.str (S [c]) = V.str (Str.ofString "0")) = decide ((c :: l).head? = some 48) := decide_eq_decide.mpr ⟨fun q => by
            have q2 : S [c] = S [48] := V.str.inj q
            have q3 := S_inj q2
            simpa using q3, fun q => by
            have q2 : c = 48 := Option.some.inj q
            rw [q2]
            rfl⟩
          have z4 : decide (((NumText.digitsVal (c :: l) : Nat) : Int) ≤ 1000000) = decide (NumText.digitsVal (c :: l) ≤ 1000000) := decide_eq_decide.mpr (by omega)
          unfold rowText
          rw [decide_eq_true z1, decide_eq_true z2, b3, z3, z4]
          simp
        have g := k H2 (e1.trans e2)
        rw [z] at g
        exact g
end
end K18

set_option Elab.async false
set_option linter.all false
set_option maxRecDepth 100000
set_option maxHeartbeats 4000000
namespace TX
open PySem PySem.Spec PyProof.Rows L2 Evl EV2 LamX
theorem tw_len {p : Nat → Bool} : ∀ (c : List Nat) (k : Nat), k ≤ (c.takeWhile p).length → (decide (k < c.length) && (c[k]?.map p).getD false) = decide (k < (c.takeWhile p).length)
  | [], k, h => by
    have h2 : k ≤ 0 := h
    have e : k = 0 := by omega
    subst e
    rfl
  | x :: c, k, h => by
    rw [List.takeWhile_cons] at h ⊢
    cases hp : p x with
    | false =>
      rw [hp] at h
      have e : k = 0 := by
        have h2 : k ≤ 0 := h
        omega
      subst e
      simp [hp]
    | true =>
      rw [hp] at h
      cases k with
      | zero => simp [hp]
      | succ k =>
        have h2 : k ≤ (c.takeWhile p).length := by
          have h3 : k + 1 ≤ (x :: c.takeWhile p).length := h
          simpa using h3
        have ih := tw_len (p := p) c k h2
        simpa using ih
theorem tw_take {p : Nat → Bool} (c : List Nat) : c.take (c.takeWhile p).length = c.takeWhile p := by
  have e := List.takeWhile_append_dropWhile (p := p) (l := c)
  conv => lhs; rw [← e]
  rw [List.take_left']
  rw [e]
theorem tw_drop {p : Nat → Bool} (c : List Nat) : c.drop (c.takeWhile p).length = c.dropWhile p := by
  have e := List.takeWhile_append_dropWhile (p := p) (l := c)
  conv => lhs; rw [← e]
  rw [List.drop_left']
  rw [e]
theorem tw_le {p : Nat → Bool} (c : List Nat) : (c.takeWhile p).length ≤ c.length := by
  have e := congrArg List.length (List.takeWhile_append_dropWhile (p := p) (l := c))
  rw [List.length_append] at e
  omega
section
variable {K : PySem.W.Frag} {σ : L2.St} {H : Hp} {te : TE} {l : List Nat}
theorem ev_starts (h : Ev te σ H (.str (S l))) : Ev (tBM K "str" (fun x xs H Q => ∃ a b, x = .str a ∧ xs = [.str b] ∧ Q (.bl (Txt.startswith a b)) H) te (tCons (tC (.str (Str.ofString "$"))) tNil)) σ H (.bl (decide (l.head? = some 36))) := fun H1 e Q q =>
  h H1 e _ fun H2 e2 => ⟨rfl, S l, S [36], rfl, rfl, by rw [starts_36]; exact q H2 e2⟩
theorem ev_strip (h : Ev te σ H (.str (S l))) (hl : l.length ≤ 1000) : Ev (tBM K "str" (fun x xs H Q => ∃ a b, x = .str a ∧ xs = [.str b] ∧ a.length ≤ sizeLine ∧ Q (.str (Txt.removeprefix a b)) H) te (tCons (tC (.str (Str.ofString "$"))) tNil)) σ H (.str (S (if l.head? = some 36 then l.tail else l))) := fun H1 e Q q =>
  h H1 e _ fun H2 e2 => ⟨rfl, S l, S [36], rfl, rfl, by rw [len_S]; exact sz_of (by omega), by rw [strip_36]; exact q H2 e2⟩
end
end TX
namespace K18
open PySem PySem.Spec PyProof.Rows L2 Pen EV2 Evl TX LamX
section
variable {P : Program} {w : World} {K : PySem.W.Frag} {mg : Str → Option Value} {base : Heap} {pc : Ads} {p : AdG}
theorem oksplit_cell (TC : TxtC K mg pc) (T : TxtG K mg p) : FnOk P w K mg base CX0 2 p.f_split_cell p.d_split_cell P_split_cell spSplit := by
  have G_is_letters : FnOk P w K mg base CX0 1 pc.f_is_letters pc.d_is_letters P_is_letters (spAlpha fun l => decide (0 < l.length) && l.all let1) := ok_is_letters TC
  refine T.F_split_cell.ok sc_split_cell (fun vs H Q E h => ?_) (fun cdv A outer s H vs Q E hr h => ?_)
  · obtain ⟨l, rfl, _⟩ := h
    rfl
  · obtain ⟨l, rfl, ha, hl, k⟩ := h
    refine ⟨_, (pss_cons (ps_set (i := 1) sc_split_cell.nd rfl (Or.inl rfl) (pe_bm PySem.F.plainAttrs_str PySem.F.slot_str_startswith PySem.F.type_str_startswith mt_startswith (pv 0) (pa_cons pe_str pa_nil)))
      (pss_cons (ps_set (i := 2) sc_split_cell.nd rfl (Or.inl rfl) (pe_bm PySem.F.plainAttrs_str PySem.F.slot_str_removeprefix PySem.F.type_str_removeprefix mt_removeprefix (pv 0) (pa_cons pe_str pa_nil)))
      (pss_cons (ps_set (i := 3) sc_split_cell.nd rfl (Or.inl rfl) pe_int)
      (pss_cons (ps_while PassesOwn.never (PW.pt (pw_and (pt_cmpR op_lt (pv 3) (pe_callB (id := "len") call_len (by rfl) TC.n_len (by decide +kernel) (pa_cons (pv 2) pa_nil)) (nomark _)) (pw_and1 (pt_val (pe_call G_is_letters (hr.mono (by decide)) (by rfl) TC.mg_is_letters TC.F_is_letters.kp TC.b_is_letters .nil pass0 (pa_cons (pe_ix ix_str (pv 2) (pv 3) (fun _ _ => rfl)) pa_nil)))))) (pss_one (ps_set (i := 3) sc_split_cell.nd rfl (Or.inl rfl) (pe_op op_add (pv 3) pe_int))))
      (pss_cons (ps_set (i := 4) sc_split_cell.nd rfl (Or.inl rfl) (pe_slice sl_str (pv 2) (po_some (pv 3)) po_none))
      (pss_one (ps_ret (pe_tup (pa_cons (pe_slice sl_str (pv 2) po_none (po_some (pv 3))) (pa_cons (pv 1) (pa_cons (pe_bm PySem.F.plainAttrs_str PySem.F.slot_str_removeprefix PySem.F.type_str_removeprefix mt_removeprefix (pv 4) (pa_cons pe_str pa_nil)) (pa_cons (pe_bm PySem.F.plainAttrs_str PySem.F.slot_str_startswith PySem.F.type_str_startswith mt_startswith (pv 4) (pa_cons pe_str pa_nil)) pa_nil)))))))))))), ?_⟩
    refine q_asg (ev_starts (K := K) (l := l) (ev_var rfl)) fun H1 e1 => ?_
    refine q_asg (ev_strip (K := K) (l := l) (ev_var rfl) hl) fun H2 e2 => ?_
    refine q_asg ev_c fun H3 e3 => ?_
    have hcl : (if l.head? = some 36 then l.tail else l).length ≤ 1000 := by
      split
      · rw [List.length_tail]; omega
      · exact hl
    have hca : ∀ x ∈ (if l.head? = some 36 then l.tail else l), x < 128 := fun x hx => by
      split at hx
      · exact ha x (List.mem_of_mem_tail hx)
      · exact ha x hx
    have hparts : cellParts l = (((if l.head? = some 36 then l.tail else l)).takeWhile let1, decide (l.head? = some 36), (if (((if l.head? = some 36 then l.tail else l)).dropWhile let1).head? = some 36 then (((if l.head? = some 36 then l.tail else l)).dropWhile let1).tail else ((if l.head? = some 36 then l.tail else l)).dropWhile let1), decide ((((if l.head? = some 36 then l.tail else l)).dropWhile let1).head? = some 36)) := rfl
    generalize hc : (if l.head? = some 36 then l.tail else l) = c at hcl hca hparts
    refine q_while (fun m σ' H' => ∃ j : Nat, σ' = [some (.str (S l)), some (.bl (decide (l.head? = some 36))), some (.str (S c)), some (.int j), none] ∧ j ≤ (c.takeWhile let1).length ∧ c.length - j = m ∧ Ex H H') (c.length - 0) ⟨0, rfl, Nat.zero_le _, rfl, (e1.trans e2).trans e3⟩ ?_
    rintro m σ' H4 ⟨j, rfl, hj, hm, e4⟩
    have cond : EvT (tAnd (tTest (tOp (rI0 fun i j => .bl (decide (i < j))) (tVar 3) (tCB (rLenX K) (tCons (tVar 2) tNil)))) (tB (tCall (spAlpha fun l => decide (0 < l.length) && l.all let1) [] E0 (tCons (tOp rIxS (tVar 2) (tVar 3)) tNil)))) [some (.str (S l)), some (.bl (decide (l.head? = some 36))), some (.str (S c)), some (.int j), none] H4 (decide (j < (c.takeWhile let1).length)) := by
      rw [← tw_len c j hj]
      have z0 : decide (j < c.length) = decide ((j : Int) < c.length) := decide_eq_decide.mpr (by omega)
      rw [z0]
      refine et_and (et_test (ev_op (ev_var rfl) (ev_lenS (K := K) (ev_var rfl) (by omega)) rv_I0)) fun h1 => ?_
      have h2 : j < c.length := by
        have z : (j : Int) < c.length := of_decide_eq_true h1
        omega
      have hx : c[j]? = some c[j] := List.getElem?_eq_getElem h2
      rw [hx]
      have ex := ev_at (σ := [some (.str (S l)), some (.bl (decide (l.head? = some 36))), some (.str (S c)), some (.int j), none]) (H := H4) (ta := tVar 2) (tb := tVar 3) (ev_var rfl) (ev_var rfl) hx (by omega)
      refine et_B fun H5 e5 Q q => ?_
      refine ex H5 e5 _ fun H6 e6 => ⟨[c[j]], rfl, fun x hx => ?_, by simp, fun H' s => ?_⟩
      · rw [List.mem_singleton.mp hx]
        exact hca _ (List.getElem_mem h2)
      · have g := q H' (e6.trans s)
        have z : (decide (0 < [c[j]].length) && [c[j]].all let1) = (Option.map let1 (some c[j])).getD false := by simp
        rw [← z] at g
        exact g
    refine ⟨_, cond, fun ht H5 e5 => ?_, fun hf H5 e5 => ?_⟩
    · have h1 : j < (c.takeWhile let1).length := of_decide_eq_true ht
      have h2 := tw_le (p := let1) c
      refine ⟨_, fun σ2 H2 n => n, ?_⟩
      refine s_asg (v := .int ((j + 1 : Nat) : Int)) (ev_is (ev_op (ev_var rfl) ev_c rv_I0) (by show V.int ((j : Int) + 1) = _; congr 1)) fun H6 e6 => ?_
      exact ⟨c.length - (j + 1), by omega, j + 1, rfl, h1, rfl, e4.trans (e5.trans e6)⟩
    · have h1 : ¬ j < (c.takeWhile let1).length := of_decide_eq_false hf
      have ej : j = (c.takeWhile let1).length := by omega
      have h2 := tw_le (p := let1) c
      subst ej
      have er : cutS (S c) (some (((c.takeWhile let1).length : Nat) : Int)) none = S (c.dropWhile let1) := by rw [sl_from c h2, tw_drop]
      have el : cutS (S c) none (some (((c.takeWhile let1).length : Nat) : Int)) = S (c.takeWhile let1) := by rw [sl_to c h2, tw_take]
      have hrl : (c.dropWhile let1).length ≤ 1000 := by
        rw [← tw_drop, List.length_drop]
        omega
      refine q_asg (v := .str (S (c.dropWhile let1))) (ev_is (ev_slS (ev_var rfl) (eo_some (ev_var rfl)) eo_none (by rw [len_S]; omega)) (congrArg V.str er)) fun H6 e6 => ?_
      refine (eu_tup (ea_cons (ev_is (ev_slS (ev_var rfl) eo_none (eo_some (ev_var rfl)) (by rw [len_S]; omega)) (congrArg V.str el)) (ea_cons (ev_var rfl) (ea_cons (ev_strip (K := K) (l := c.dropWhile let1) (ev_var rfl) hrl) (ea_cons (ev_starts (K := K) (l := c.dropWhile let1) (ev_var rfl)) ea_nil)))) (by show 4 ≤ 100000; decide)) H6 (Ex.refl H6) _ fun t H7 ht e7 h7 => ?_
      have e47 := (e4.trans e5).trans (e6.trans e7)
      have e46 := (e4.trans e5).trans e6
      refine k t H7 (fresh_back e46 ht) e47 ?_
      rw [h7, hparts]
end
end K18

set_option Elab.async false
set_option linter.all false
set_option maxRecDepth 100000
set_option maxHeartbeats 4000000
namespace K18
open PySem PySem.Spec PyProof.Rows L2 Pen EV2 Evl TX LamX
section
variable {P : Program} {w : World} {K : PySem.W.Frag} {mg : Str → Option Value} {base : Heap} {f C : Addr} {fd : FuncData}
abbrev s_OffGrid_init : Stmt := inClass (topS 6) 0
abbrev N_OffGrid_init : List Str := ["self", "row", "column"]
abbrev P_OffGrid_init : List Str := ["self", "row", "column"]
theorem sc_OffGrid_init : FnScope N_OffGrid_init P_OffGrid_init (defScope s_OffGrid_init) := ⟨rfl, rfl, rfl, by decide +kernel, rfl, by decide +kernel, by decide +kernel⟩
theorem ok_OffGrid_init (F : Fun K "__init__" "OffGrid.__init__" s_OffGrid_init f fd) (O : OexC K C) (no : PySem.W.findIn K (.ref C) "row" = some none) (no2 : PySem.W.findIn K (.ref C) "column" = some none) : FnOk P w K mg base CX0 1 f fd P_OffGrid_init (spI2 C "row" "column") := by
  refine F.ok sc_OffGrid_init (fun vs H Q E h => ?_) (fun cdv A outer s H vs Q E hr h => ?_)
  · obtain ⟨a, v, u, rfl, _⟩ := h
    rfl
  · obtain ⟨a, v, u, rfl, e, k⟩ := h
    refine ⟨_, pss_cons (ps_ost (pv 0) (pv 1)) (pss_one (ps_ost (pv 0) (pv 2))), _, rfl, _, rfl, a, C, rfl, O, no, .inl ⟨e, fun d hd ne => ?_⟩⟩
    exact ⟨_, rfl, _, rfl, a, C, rfl, O, no2, .inr ⟨d, _, upd_same, by rw [upd_ne ne, upd_same], by show 1 ≤ 900; decide, k d hd ne⟩⟩
theorem kp_OffGrid_init (F : Fun K "__init__" "OffGrid.__init__" s_OffGrid_init f fd) : KBn K fd P_OffGrid_init 3 [] (fun us ws => us) (fun vs zs => vs) :=
  kbn_of F (fun _ _ _ _ _ _ us ws l1 l2 => match us, ws, l1, l2 with | [_, _, _], [], _, _ => rfl) fun r _ => r
end
abbrev s_Address_init : Stmt := inClass (topS 19) 0
abbrev N_Address_init : List Str := ["self", "row", "column", "fixed_row", "fixed_column", "sheet"]
abbrev P_Address_init : List Str := ["self", "row", "column", "fixed_row", "fixed_column", "sheet"]
theorem sc_Address_init : FnScope N_Address_init P_Address_init (defScope s_Address_init) := ⟨rfl, rfl, rfl, by decide +kernel, rfl, by decide +kernel, by decide +kernel⟩
abbrev s_Address___eq__ : Stmt := inClass (topS 19) 1
abbrev N_Address___eq__ : List Str := ["self", "other"]
abbrev P_Address___eq__ : List Str := ["self", "other"]
theorem sc_Address___eq__ : FnScope N_Address___eq__ P_Address___eq__ (defScope s_Address___eq__) := ⟨rfl, rfl, rfl, by decide +kernel, rfl, by decide +kernel, by decide +kernel⟩
abbrev s_Address_pushed : Stmt := inClass (topS 19) 2
abbrev N_Address_pushed : List Str := ["self", "rows", "columns"]
abbrev P_Address_pushed : List Str := ["self", "rows", "columns"]
theorem sc_Address_pushed : FnScope N_Address_pushed P_Address_pushed (defScope s_Address_pushed) := ⟨rfl, rfl, rfl, by decide +kernel, rfl, by decide +kernel, by decide +kernel⟩
abbrev s_Address_bare : Stmt := inClass (topS 19) 3
abbrev N_Address_bare : List Str := ["self"]
abbrev P_Address_bare : List Str := ["self"]
theorem sc_Address_bare : FnScope N_Address_bare P_Address_bare (defScope s_Address_bare) := ⟨rfl, rfl, rfl, by decide +kernel, rfl, by decide +kernel, by decide +kernel⟩
theorem upd_twice {H : Hp} {a : Addr} {o o' : HO} : upd (upd H a o) a o' = upd H a o' := by
  funext b
  by_cases h : b = a
  · rw [h, upd_same, upd_same]
  · rw [upd_ne h, upd_ne h, upd_ne h]
structure ErO (K : PySem.W.Frag) (mg : Str → Option Value) (S C fI : Addr) (fd : FuncData) : Prop where
  gC : mg "OffGrid" = some (.ref C)
  ec : ErrC K C fI
  xf : XfC K C
  no : PySem.W.findIn K (.ref C) "row" = some none
  no2 : PySem.W.findIn K (.ref C) "column" = some none
  F : Fun K "__init__" "OffGrid.__init__" s_OffGrid_init fI fd
  ln : LineOf K S C
  nS : C ≠ S
structure AdC where
  C : Addr
  CO : Addr
  iO : Addr
  dO : FuncData
  f_init : Addr
  f_eq : Addr
  f_pushed : Addr
  f_bare : Addr
  d_init : FuncData
  d_eq : FuncData
  d_pushed : FuncData
  d_bare : FuncData
structure TxtA6 (K : PySem.W.Frag) (mg : Str → Option Value) (S : Addr) (p : AdC) : Prop where
  O : ErO K mg S p.CO p.iO p.dO
  mg_Address : mg "Address" = some (.ref p.C)
  cl : Cls K p.C
  n_row : NoAttr K p.C "row"
  n_column : NoAttr K p.C "column"
  n_fixed_row : NoAttr K p.C "fixed_row"
  n_fixed_column : NoAttr K p.C "fixed_column"
  n_sheet : NoAttr K p.C "sheet"
  F_init : Fun K "__init__" "Address.__init__" s_Address_init p.f_init p.d_init
def flds (r c : Int) (fr fc : Bool) (sh : Option (List Nat)) : List (Str × V) := [("row", .int r), ("column", .int c), ("fixed_row", .bl fr), ("fixed_column", .bl fc), ("sheet", shV sh)]
def shGood : Option (List Nat) → Bool
  | none => true
  | some l => sheetOk l
/-- what stands behind a call of __init__ with any values -/
structure InitOk (K : PySem.W.Frag) (p : AdC) (CB : Addr) (H : Hp) (x : Addr) (v0 v1 v2 v3 v4 : V) (n0 n1 n2 n3 : String) (g0 g1 g2 g3 g4 : Bool) : Prop where
  k0 : Knd K H v0 n0
  k1 : Knd K H v1 n1
  k2 : Knd K H v2 n2
  k3 : Knd K H v3 n3
  h0 : goodK n0 g0
  h1 : goodK n1 g1
  h2 : kitB n2 "bool" = some g2
  h3 : kitB n3 "bool" = some g3
  i0 : g0 = true → ∃ r, v0 = .int r
  i1 : g1 = true → ∃ c, v1 = .int c
  i2 : g2 = true → ∃ b, v2 = .bl b
  i3 : g3 = true → ∃ b, v3 = .bl b
  h4 : (∃ sh, v4 = shV sh ∧ shOk sh ∧ g4 = shGood sh) ∨ (∃ n4 : String, Knd K H v4 n4 ∧ kitB n4 "str" = some false ∧ v4 ≠ .non ∧ g4 = false)
theorem InitOk.ext {K : PySem.W.Frag} {p : AdC} {CB : Addr} {H H' : Hp} {x : Addr} {v0 v1 v2 v3 v4 : V} {n0 n1 n2 n3 : String} {g0 g1 g2 g3 g4 : Bool} (h : InitOk K p CB H x v0 v1 v2 v3 v4 n0 n1 n2 n3 g0 g1 g2 g3 g4) (e : Ex H H') : InitOk K p CB H' x v0 v1 v2 v3 v4 n0 n1 n2 n3 g0 g1 g2 g3 g4 :=
  ⟨h.k0.ext e, h.k1.ext e, h.k2.ext e, h.k3.ext e, h.h0, h.h1, h.h2, h.h3, h.i0, h.i1, h.i2, h.i3, by
    rcases h.h4 with q | ⟨n4, a, b, c, d⟩
    · exact .inl q
    · exact .inr ⟨n4, a.ext e, b, c, d⟩⟩
/-- raises OffGrid of r, c -/
def badG (CO : Addr) (H : Hp) (r c : Int) (E : XK) : Prop := ∀ d H', Same H H' → H d = none → H' d = some (.xd [("column", .int c), ("row", .int r)]) → E (.ref CO) (some d) H'
def spInit (K : PySem.W.Frag) (p : AdC) (CB : Addr) : Sp := fun vs H Q E => ∃ (x dx : Addr) (v0 v1 v2 v3 v4 : V) (n0 n1 n2 n3 : String) (g0 g1 g2 g3 g4 : Bool), vs = [.ref x, v0, v1, v2, v3, v4] ∧ H x = some (.ins p.C dx []) ∧ InitOk K p CB H x v0 v1 v2 v3 v4 n0 n1 n2 n3 g0 g1 g2 g3 g4 ∧
  (g0 = false → bad CB "value" H v0 E) ∧ (g0 = true → g1 = false → bad CB "value" H v1 E) ∧ (g0 = true → g1 = true → g2 = false → bad CB "value" H v2 E) ∧ (g0 = true → g1 = true → g2 = true → g3 = false → bad CB "value" H v3 E) ∧
  (g0 = true → g1 = true → g2 = true → g3 = true → g4 = false → bad CB "value" H v4 E) ∧
  (∀ r c fr fc sh, v0 = .int r → v1 = .int c → v2 = .bl fr → v3 = .bl fc → v4 = shV sh → g4 = true → (gridOk r c = false → badG p.CO H r c E) ∧ (gridOk r c = true → ∀ H', Ex H H' → Q .non (upd H' x (.ins p.C dx (flds r c fr fc sh)))))
section
variable {P : Program} {w : World} {K : PySem.W.Frag} {mg : Str → Option Value} {base : Heap} {pc : Ads} {pg : AdG} {p : AdC}
theorem ok_Address_init (TC : TxtC K mg pc) (TG : TxtG K mg pg) (T : TxtA6 K mg pc.S p) : FnOk P w K mg base (L2.CX P w) 4 p.f_init p.d_init P_Address_init (spInit K p pc.CB) := by
  have G_check_integer : FnOk P w K mg base (L2.CX P w) 3 pg.f_check_integer pg.d_check_integer P_check_integer (spInt K pc.CB) := ok_check_integer TC TG
  have G_check_truth : FnOk P w K mg base (L2.CX P w) 3 pg.f_check_truth pg.d_check_truth P_check_truth (spTruth K pc.CB) := ok_check_truth TC TG
  have G_is_sheet_name : FnOk P w K mg base CX0 1 pg.f_is_sheet_name pg.d_is_sheet_name P_is_sheet_name (spSheetName K) := ok_is_sheet_name TC TG
  have G_is_on_grid : FnOk P w K mg base CX0 1 pg.f_is_on_grid pg.d_is_on_grid P_is_on_grid spGrid := ok_is_on_grid TC TG
  refine T.F_init.okX sc_Address_init (fun vs H Q E h => ?_) (fun cdv A outer s H vs Q E hr h => ?_)
  · obtain ⟨x, dx, v0, v1, v2, v3, v4, n0, n1, n2, n3, g0, g1, g2, g3, g4, rfl, _⟩ := h
    rfl
  · obtain ⟨x, dx, v0, v1, v2, v3, v4, n0, n1, n2, n3, g0, g1, g2, g3, g4, rfl, hx, I, b0, b1, b2, b3, b4, k⟩ := h
    refine ⟨_, (pss_cons (ps_expr (pe_call G_check_integer (hr.mono (by decide)) (by rfl) TG.mg_check_integer TG.F_check_integer.kp TG.b_check_integer .nil (passes_call (takes_of rfl rfl rfl rfl) fun _ _ _ _ h => h) (pa_cons (pv 1) pa_nil)))
      (pss_cons (ps_expr (pe_call G_check_integer (hr.mono (by decide)) (by rfl) TG.mg_check_integer TG.F_check_integer.kp TG.b_check_integer .nil (passes_call (takes_of rfl rfl rfl rfl) fun _ _ _ _ h => h) (pa_cons (pv 2) pa_nil)))
      (pss_cons (ps_expr (pe_call G_check_truth (hr.mono (by decide)) (by rfl) TG.mg_check_truth TG.F_check_truth.kp TG.b_check_truth .nil (passes_call (takes_of rfl rfl rfl rfl) fun _ _ _ _ h => h) (pa_cons (pv 3) pa_nil)))
      (pss_cons (ps_expr (pe_call G_check_truth (hr.mono (by decide)) (by rfl) TG.mg_check_truth TG.F_check_truth.kp TG.b_check_truth .nil (passes_call (takes_of rfl rfl rfl rfl) fun _ _ _ _ h => h) (pa_cons (pv 4) pa_nil)))
      (pss_cons (ps_if (PW.pt (pw_and (pt_cmpR op_notN1 (pv 5) pe_non (nomark _)) (pw_and1 (pt_not (pt_val (pe_call G_is_sheet_name (hr.mono (by decide)) (by rfl) TG.mg_is_sheet_name TG.F_is_sheet_name.kp TG.b_is_sheet_name .nil pass0 (pa_cons (pv 5) pa_nil))))))) (pss_one (ps_raise rfl (takes_of rfl rfl rfl rfl) (pmk_R (n := 1) TC.BadValue.ec (ok_BadValue_init TC.BadValue.F TC.BadValue.ec.ox TC.BadValue.no) (hr.mono (by decide)) (by rfl) TC.BadValue.gC (kp_BadValue_init TC.BadValue.F) hx0 (pa_cons (pv 5) pa_nil)))) pss_nil)
      (pss_cons (ps_if (pt_not (pt_val (pe_call G_is_on_grid (hr.mono (by decide)) (by rfl) TG.mg_is_on_grid TG.F_is_on_grid.kp TG.b_is_on_grid .nil pass0 (pa_cons (pv 1) (pa_cons (pv 2) pa_nil))))) (pss_one (ps_raise rfl (takes_of rfl rfl rfl rfl) (pmk_R (n := 2) T.O.ec (ok_OffGrid_init T.O.F T.O.ec.ox T.O.no T.O.no2) (hr.mono (by decide)) (by rfl) T.O.gC (kp_OffGrid_init T.O.F) hx0 (pa_cons (pv 1) (pa_cons (pv 2) pa_nil))))) pss_nil)
      (pss_cons (ps_fld (pv 0) (pv 1) rfl)
      (pss_cons (ps_fld (pv 0) (pv 2) rfl)
      (pss_cons (ps_fld (pv 0) (pv 3) rfl)
      (pss_cons (ps_fld (pv 0) (pv 4) rfl)
      (pss_one (ps_fld (pv 0) (pv 5) rfl)))))))))))), ?_⟩
    cases g0 with
    | false => exact ⟨_, rfl, v0, n0, false, rfl, I.k0, I.h0, (fun z => nomatch z), fun _ => b0 rfl⟩
    | true =>
      refine q_drop (v := .non) (fun H1 e Q q => ⟨_, rfl, v0, n0, true, rfl, I.k0.ext e, I.h0, fun _ H' s => q H' s, fun z => nomatch z⟩) fun H1 e1 => ?_
      cases g1 with
      | false => exact ⟨_, rfl, v1, n1, false, rfl, I.k1.ext e1, I.h1, (fun z => nomatch z), fun _ => (b1 rfl rfl).at e1⟩
      | true =>
        refine q_drop (v := .non) (fun H2 e Q q => ⟨_, rfl, v1, n1, true, rfl, I.k1.ext (e1.trans e), I.h1, fun _ H' s => q H' s, fun z => nomatch z⟩) fun H2 e2 => ?_
        have e12 := e1.trans e2
        cases g2 with
        | false => exact ⟨_, rfl, v2, n2, false, rfl, I.k2.ext e12, I.h2, (fun z => nomatch z), fun _ => (b2 rfl rfl rfl).at e12⟩
        | true =>
          refine q_drop (v := .non) (fun H3 e Q q => ⟨_, rfl, v2, n2, true, rfl, I.k2.ext (e12.trans e), I.h2, fun _ H' s => q H' s, fun z => nomatch z⟩) fun H3 e3 => ?_
          have e13 := e12.trans e3
          cases g3 with
          | false => exact ⟨_, rfl, v3, n3, false, rfl, I.k3.ext e13, I.h3, (fun z => nomatch z), fun _ => (b3 rfl rfl rfl rfl).at e13⟩
          | true =>
            refine q_drop (v := .non) (fun H4 e Q q => ⟨_, rfl, v3, n3, true, rfl, I.k3.ext (e13.trans e), I.h3, fun _ H' s => q H' s, fun z => nomatch z⟩) fun H4 e4 => ?_
            have e14 := e13.trans e4
            obtain ⟨r, rfl⟩ := I.i0 rfl
            obtain ⟨c, rfl⟩ := I.i1 rfl
            obtain ⟨fr, rfl⟩ := I.i2 rfl
            obtain ⟨fc, rfl⟩ := I.i3 rfl
            have cond : EvT (tAnd (tTest (tOp rNotN (tVar 5) (tC .non))) (tNot (tB (tCall (spSheetName K) [] E0 (tCons (tVar 5) tNil))))) [some (.ref x), some (.int r), some (.int c), some (.bl fr), some (.bl fc), some v4] H4 (!g4) := by
              have en : Ev (tOp rNotN (tVar 5) (tC .non)) [some (.ref x), some (.int r), some (.int c), some (.bl fr), some (.bl fc), some v4] H4 (.bl (!decide (v4 = .non))) := ev_op (ev_var rfl) ev_c fun H1 _ Q q => ⟨rfl, q H1 (Ex.refl H1)⟩
              rcases I.h4 with ⟨sh, rfl, ho, hg⟩ | ⟨n4, kn, hk, hne, hg⟩
              · cases sh with
                | none =>
                  refine et_is (et_and (b := true) (et_test en) fun z => absurd z (by decide)) ?_
                  rw [hg]
                  rfl
                | some l =>
                  refine et_is (et_and (et_test en) fun _ => et_not (et_B (b := sheetOk l) fun H5 e5 Q q => ⟨_, rfl, .str (S l), rfl, .inl ⟨l, rfl, ho.1, ho.2, fun H' s => q H' s⟩⟩)) ?_
                  rw [hg]
                  rfl
              · refine et_is (et_and (et_test en) fun _ => et_not (et_B (b := false) fun H5 e5 Q q => ⟨_, rfl, v4, rfl, .inr ⟨n4, kn.ext (e14.trans e5), hk, fun H' s => q H' s⟩⟩)) ?_
                rw [hg, decide_eq_false hne]
                rfl
            refine q_when cond (fun hb H5 e5 => ?_) (fun hb H5 e5 => ?_)
            · have hg : g4 = false := by simpa using hb
              exact ⟨_, rfl, rfl, rfl, by decide, rr_e1 (Q := E) fun d H' nd sm hd => ((b4 rfl rfl rfl rfl hg).at (e14.trans e5)) d H' sm nd hd⟩
            · have hg : g4 = true := by simpa using hb
              have e15 := e14.trans e5
              obtain ⟨sh, rfl⟩ : ∃ sh, v4 = shV sh := by
                rcases I.h4 with ⟨sh, h, _⟩ | ⟨n4, _, _, _, h⟩
                · exact ⟨sh, h⟩
                · rw [hg] at h
                  cases h
              obtain ⟨kb, kg⟩ := k r c fr fc sh rfl rfl rfl rfl rfl hg
              refine q_when (b := !gridOk r c) (et_not (et_B fun H6 e6 Q q => ⟨_, rfl, _, rfl, r, c, rfl, fun H' s => q H' s⟩)) (fun hb H6 e6 => ?_) (fun hb H6 e6 => ?_)
              · have hg2 : gridOk r c = false := by simpa using hb
                refine ⟨_, rfl, _, rfl, rfl, rfl, by decide, rr_e2 (Q := E) fun d H' nd sm hd => kb hg2 d H' ((e15.trans e6).trans sm) (fresh_back (e15.trans e6) nd) hd⟩
              · have hg2 : gridOk r c = true := by simpa using hb
                have e16 := e15.trans e6
                have hx6 := e16 _ _ hx
                refine ⟨_, rfl, _, rfl, x, p.C, dx, _, rfl, hx6, T.cl, T.n_row, by decide, ?_⟩
                refine ⟨_, rfl, _, rfl, x, p.C, dx, _, rfl, upd_same, T.cl, T.n_column, by show 1 < 1000; decide, ?_⟩
                refine ⟨_, rfl, _, rfl, x, p.C, dx, _, rfl, upd_same, T.cl, T.n_fixed_row, by show 2 < 1000; decide, ?_⟩
                refine ⟨_, rfl, _, rfl, x, p.C, dx, _, rfl, upd_same, T.cl, T.n_fixed_column, by show 3 < 1000; decide, ?_⟩
                refine ⟨_, rfl, _, rfl, x, p.C, dx, _, rfl, upd_same, T.cl, T.n_sheet, by show 4 < 1000; decide, ?_⟩
                have g := kg hg2 H6 e16
                rw [upd_twice, upd_twice, upd_twice, upd_twice]
                exact g
end
end K18

set_option Elab.async false
set_option linter.all false
set_option maxRecDepth 100000
set_option maxHeartbeats 4000000
namespace K18
open PySem PySem.Spec PyProof.Rows L2 Pen EV2 Evl TX LamX
/-- what the class Address must say beside -/
structure TxtB (K : PySem.W.Frag) (mg : Str → Option Value) (p : AdC) (D : Addr) : Prop where
  mkA : Mk K p.C p.f_init
  F_eq : Fun K "__eq__" "Address.__eq__" s_Address___eq__ p.f_eq p.d_eq
  ha : PySem.W.findIn K (.ref p.C) "__class__" = some (some (.builtin "object.__class__"))
  hn : PySem.W.specialIn K (.builtin "object.__class__") "__get__" = some (some (.builtin "getset_descriptor.__get__"))
  ht : PySem.W.takesIn K (.builtin "object.__class__") = some true
  hm : PySem.W.mroIn K p.C (.type "object") = some true
section
variable {P : Program} {w : World} {K : PySem.W.Frag} {mg : Str → Option Value} {base : Heap} {pc : Ads} {pg : AdG} {p : AdC} {D : Addr} {S : Addr} {σ : L2.St} {H : Hp} {te : TE} {a dx : Addr} {r c : Int} {fr fc : Bool} {sh : Option (List Nat)}
theorem adr_ty (T : TxtA6 K mg S p) (Z : TxtB K mg p D) (h : H a = some (.ins p.C dx (flds r c fr fc sh))) : TyX K H (.ref a) (.ref p.C) := .base (.ins h T.cl Z.ha Z.hn Z.ht Z.hm)
theorem ev_fld {f : Str} {v : V} (he : Ev te σ H (.ref a)) (h : H a = some (.ins p.C dx (flds r c fr fc sh))) (cl : Cls K p.C) (n : NoAttr K p.C f) (hl : (flds r c fr fc sh).lookup f = some v) : Ev (tFld K te f) σ H v := fun H1 e Q q =>
  he H1 e _ fun H2 e2 => ⟨a, p.C, dx, _, v, rfl, (e.trans e2) _ _ h, cl, n, hl, q H2 e2⟩
/-- a new Address -/
def EvNew (C : Addr) (te : TE) (σ : L2.St) (H : Hp) (fs : List (Str × V)) : Prop := ∀ H1, Ex H H1 → ∀ Q : VK, (∀ x dx H2, H1 x = none → Ex H1 H2 → H2 x = some (.ins C dx fs) → Q (.ref x) H2) → te σ H1 Q
theorem kb_Address {f : Addr} {fd : FuncData} (F : Fun K "__init__" "Address.__init__" s_Address_init f fd) : KBn K fd P_Address_init 3 ["fixed_row", "fixed_column", "sheet"] (fun us ws => us ++ ws) (fun vs zs => vs ++ zs) :=
  kbn_of F (fun _ _ _ _ _ _ us ws l1 l2 => match us, ws, l1, l2 with | [_, _, _], [_, _, _], _, _ => rfl) fun r q => r.append q
theorem init_good {CB : Addr} {H1 H3 : Hp} {E : XK} {Q : VK} (hs : shOk sh) (hg : shGood sh = true) (hr : gridOk r c = true) (e : Ex H1 H3) (q : ∀ x dx H2, H1 x = none → Ex H1 H2 → H2 x = some (.ins p.C dx (flds r c fr fc sh)) → Q (.ref x) H2) :
    ∀ x dx, H3 x = none → H3 dx = none → dx ≠ x → spInit K p CB [.ref x, .int r, .int c, .bl fr, .bl fc, shV sh] (upd (upd H3 dx (.own x)) x (.ins p.C dx [])) (fun v H4 => v = .non ∧ Q (.ref x) H4) E := fun x dx nx ndx ne =>
  ⟨x, dx, _, _, _, _, _, "int", "int", "bool", "bool", true, true, true, true, true, rfl, upd_same,
    ⟨knd_int, knd_int, knd_bl, knd_bl, ⟨true, false, by decide +kernel, by decide +kernel, rfl⟩, ⟨true, false, by decide +kernel, by decide +kernel, rfl⟩, by decide +kernel, by decide +kernel, fun _ => ⟨r, rfl⟩, fun _ => ⟨c, rfl⟩, fun _ => ⟨fr, rfl⟩, fun _ => ⟨fc, rfl⟩, .inl ⟨sh, rfl, hs, hg.symm⟩⟩,
    (fun z => nomatch z), (fun _ z => nomatch z), (fun _ _ z => nomatch z), (fun _ _ _ z => nomatch z), (fun _ _ _ _ z => nomatch z), by
      intro r2 c2 fr2 fc2 sh2 h0 h1 h2 h3 h4 _
      cases h0
      cases h1
      cases h2
      cases h3
      have h5 : sh = sh2 := by
        cases sh <;> cases sh2 <;> first | rfl | (simp [shV] at h4; try exact congrArg some h4)
      subst h5
      refine ⟨fun z => absurd (hr.symm.trans z) (by decide), fun _ H4 e4 => ⟨rfl, q x dx _ (fresh_back e nx) (fun b o hb => ?_) upd_same⟩⟩
      have hb3 := e _ _ hb
      have n1 : b ≠ x := ne_of_none hb3 nx
      have n2 : b ≠ dx := ne_of_none hb3 ndx
      rw [upd_ne n1]
      refine e4 _ _ ?_
      rw [upd_ne n1, upd_ne n2]
      exact hb3⟩
theorem en_make {CB : Addr} {E : XK} {ta tk : TA} (ha : EvA ta σ H [.int r, .int c]) (hk : EvA tk σ H [.bl fr, .bl fc, shV sh]) (hs : shOk sh) (hg : shGood sh = true) (hr : gridOk r c = true) :
    EvNew p.C (tMakeK p.C 2 3 (spInit K p CB) (fun vs zs => vs ++ zs) E ta tk) σ H (flds r c fr fc sh) := fun H1 e Q q =>
  ha H1 e _ fun H2 e2 => hk H2 (e.trans e2) _ fun H3 e3 => ⟨rfl, rfl, init_good hs hg hr (e2.trans e3) q⟩
def spPushed (C CO : Addr) : Sp := fun vs H Q E => ∃ (a dx : Addr) (r c dr dc : Int) (fr fc : Bool) (sh : Option (List Nat)), vs = [.ref a, .int dr, .int dc] ∧ H a = some (.ins C dx (flds r c fr fc sh)) ∧ shOk sh ∧ shGood sh = true ∧
  (gridOk (r + dr) (c + dc) = true → ∀ x dx H', H x = none → Same H H' → H' x = some (.ins C dx (flds (r + dr) (c + dc) fr fc sh)) → Q (.ref x) H') ∧ (gridOk (r + dr) (c + dc) = false → badG CO H (r + dr) (c + dc) E)
def spAeq (K : PySem.W.Frag) (C : Addr) : Sp := fun vs H Q _ => ∃ (a dx : Addr) (r c : Int) (fr fc : Bool) (sh : Option (List Nat)) (y : V), vs = [.ref a, y] ∧ H a = some (.ins C dx (flds r c fr fc sh)) ∧ shOk sh ∧
  ((∃ (b dy : Addr) (r2 c2 : Int) (fr2 fc2 : Bool) (sh2 : Option (List Nat)), y = .ref b ∧ H b = some (.ins C dy (flds r2 c2 fr2 fc2 sh2)) ∧ shOk sh2 ∧ ∀ H', Same H H' → Q (.bl (decide (r = r2) && decide (c = c2) && alike sh sh2 && decide (fr = fr2) && decide (fc = fc2))) H') ∨
   (∃ n : String, Knd K H y n ∧ PySem.W.kitOne K (.type n) (.ref C) = some false ∧ ∀ H', Same H H' → Q (.bl false) H'))
end
section
variable {P : Program} {w : World} {K : PySem.W.Frag} {mg : Str → Option Value} {base : Heap} {pc : Ads} {pg : AdG} {p : AdC} {D : Addr}
theorem ok_Address_eq (TC : TxtC K mg pc) (TG : TxtG K mg pg) (T : TxtA6 K mg pc.S p) (Z : TxtB K mg p D) : FnOk P w K mg base CX0 6 p.f_eq p.d_eq P_Address___eq__ (spAeq K p.C) := by
  have G_alike_sheets : FnOk P w K mg base CX0 5 pg.f_alike_sheets pg.d_alike_sheets P_alike_sheets spAlike := ok_alike_sheets TC TG
  refine Z.F_eq.ok sc_Address___eq__ (fun vs H Q E h => ?_) (fun cdv A outer s H vs Q E hr h => ?_)
  · obtain ⟨a, dx, r, c, fr, fc, sh, y, rfl, _⟩ := h
    rfl
  · obtain ⟨a, dx, r, c, fr, fc, sh, y, rfl, ha, hs, h⟩ := h
    refine ⟨_, (pss_cons (ps_if (pt_not (pt_val (pe_callB (id := "isinstance") call_isi (by rfl) TC.n_isinstance (by decide +kernel) (pa_cons (pv 1) (pa_cons (pe_glob (v := .ref p.C) (by rfl) T.mg_Address rfl) pa_nil))))) (pss_one (ps_ret pe_bl)) pss_nil)
      (pss_cons (ps_if (PW.pt (pw_or (pt_cmpR op_ne (pe_fld (pv 0) rfl) (pe_fld (pv 1) rfl) (nomark _)) (pw_or (pt_cmpR op_ne (pe_fld (pv 0) rfl) (pe_fld (pv 1) rfl) (nomark _)) (pw_or1 (pt_not (pt_val (pe_call G_alike_sheets (hr.mono (by decide)) (by rfl) TG.mg_alike_sheets TG.F_alike_sheets.kp TG.b_alike_sheets .nil pass0 (pa_cons (pe_fld (pv 0) rfl) (pa_cons (pe_fld (pv 1) rfl) pa_nil))))))))) (pss_one (ps_ret pe_bl)) pss_nil)
      (pss_one (ps_ret (pe_and (pe_cmpR op_eq (pe_fld (pv 0) rfl) (pe_fld (pv 1) rfl) (nomark _)) (pe_one (pe_cmpR op_eq (pe_fld (pv 0) rfl) (pe_fld (pv 1) rfl) (nomark _)))))))), ?_⟩
    rcases h with ⟨b, dy, r2, c2, fr2, fc2, sh2, rfl, hb, hs2, k⟩ | ⟨n, kn, hk, k⟩
    · have me : PySem.W.kitOne K (.ref p.C) (.ref p.C) = some true := by
        unfold PySem.W.kitOne
        rw [if_pos (by simp)]
      have ei : Ev (tCB (rIsi K) (tCons (tVar 1) (tCons (tC (.ref p.C)) tNil))) [some (.ref a), some (.ref b)] H (.bl true) := fun H1 e Q q => ⟨_, rfl, .ref b, .ref p.C, .ref p.C, .ref p.C, true, rfl, .own p.C, adr_ty T Z (e _ _ hb), me, q H1 (Ex.refl H1)⟩
      refine q_when (b := false) (et_is (et_not (et_B ei)) rfl) (fun z => nomatch z) fun _ H1 e1 => ?_
      have ha1 := e1 _ _ ha
      have hb1 := e1 _ _ hb
      have fa : ∀ {f : Str} {v : V}, NoAttr K p.C f → (flds r c fr fc sh).lookup f = some v → Ev (tFld K (tVar 0) f) [some (.ref a), some (.ref b)] H1 v := fun n hl => ev_fld (ev_var rfl) ha1 T.cl n hl
      have fb : ∀ {f : Str} {v : V}, NoAttr K p.C f → (flds r2 c2 fr2 fc2 sh2).lookup f = some v → Ev (tFld K (tVar 1) f) [some (.ref a), some (.ref b)] H1 v := fun n hl => ev_fld (ev_var rfl) hb1 T.cl n hl
      have el : Ev (tCall spAlike [] E0 (tCons (tFld K (tVar 0) "sheet") (tCons (tFld K (tVar 1) "sheet") tNil))) [some (.ref a), some (.ref b)] H1 (.bl (alike sh sh2)) :=
        ev_call (ea_cons (fa T.n_sheet rfl) (ea_cons (fb T.n_sheet rfl) ea_nil)) fun H2 e Q q E => ⟨sh, sh2, rfl, hs, hs2, fun H' s => q H' s⟩
      refine q_when (et_or (et_test (ev_op (fa T.n_row rfl) (fb T.n_row rfl) (rv_ne rfl))) fun _ => et_or (et_test (ev_op (fa T.n_column rfl) (fb T.n_column rfl) (rv_ne rfl))) fun _ => et_not (et_B el)) (fun hc H2 e2 => ?_) (fun hc H2 e2 => ?_)
      · have z : (decide (r = r2) && decide (c = c2) && alike sh sh2 && decide (fr = fr2) && decide (fc = fc2)) = false := by
          simp only [Bool.or_eq_true, Bool.not_eq_true', decide_eq_false_iff_not] at hc
          rcases hc with h | h | h
          · rw [decide_eq_false (fun q => h (by rw [q]))]
            rfl
          · rw [decide_eq_false (show ¬ c = c2 from fun q => h (by rw [q]))]
            simp
          · rw [h]
            simp
        have g := k H2 (e1.trans e2)
        rw [z] at g
        exact g
      · simp only [Bool.or_eq_false_iff, Bool.not_eq_false', decide_eq_true_eq] at hc
        obtain ⟨h1, h2, h3⟩ := hc
        cases h1
        cases h2
        refine (ev_andV (ev_op ((fa T.n_fixed_row rfl).mono e2) ((fb T.n_fixed_row rfl).mono e2) (rv_eq rfl)) fun _ => ev_op ((fa T.n_fixed_column rfl).mono e2) ((fb T.n_fixed_column rfl).mono e2) (rv_eq rfl)) H2 (Ex.refl H2) _ fun H3 e3 => ?_
        have g := k H3 ((e1.trans e2).trans e3)
        have z : (decide (r = r) && decide (c = c) && alike sh sh2 && decide (fr = fr2) && decide (fc = fc2)) = (decide (V.bl fr = V.bl fr2) && decide (V.bl fc = V.bl fc2)) := by
          rw [h3]
          simp
        rw [z] at g
        exact g
    · have ei : Ev (tCB (rIsi K) (tCons (tVar 1) (tCons (tC (.ref p.C)) tNil))) [some (.ref a), some y] H (.bl false) := fun H1 e Q q => ⟨_, rfl, y, .ref p.C, .type n, .ref p.C, false, rfl, .own p.C, kn H1 e, hk, q H1 (Ex.refl H1)⟩
      exact q_when (b := true) (et_is (et_not (et_B ei)) rfl) (fun _ H1 e1 => k H1 e1) fun z => nomatch z
end
end K18

set_option Elab.async false
set_option linter.all false
set_option maxRecDepth 100000
set_option maxHeartbeats 4000000
namespace K18
open PySem PySem.Spec PyProof.Rows L2 Pen EV2 Evl TX LamX
theorem s_makeK {C : Addr} {n m : Nat} {sp : Sp} {gV : List V → List V → List V} {E : XK} {ta tk : TA} {σ : L2.St} {H : Hp} {D : Ends} {vs zs : List V} (ha : EvA ta σ H vs) (hk : EvA tk σ H zs) (l1 : vs.length = n) (l2 : zs.length = m)
    (k : ∀ H3, Ex H H3 → ∀ x dx, H3 x = none → H3 dx = none → dx ≠ x → sp (gV (.ref x :: vs) zs) (upd (upd H3 dx (.own x)) x (.ins C dx [])) (fun v H4 => v = .non ∧ D.rt (.ref x) H4) E) : tRet (tMakeK C n m sp gV E ta tk) D σ H :=
  ha H (Ex.refl H) _ fun H1 e1 => hk H1 e1 _ fun H2 e2 => ⟨l1, l2, k H2 (e1.trans e2)⟩
abbrev kwA : List (Str × V) := [("fixed_row", .bl false), ("fixed_column", .bl false), ("sheet", .non)]
theorem kb0_of {K : PySem.W.Frag} {f : Addr} {fd : FuncData} (F : FunD K "__init__" "Address.__init__" (defArgs s_Address_init) (defBody s_Address_init) (defScope s_Address_init) [] kwA f fd) :
    ∃ mv : List Value, KBn K fd P_Address_init 3 [] (fun us ws => us ++ mv) (fun vs zs => vs ++ [.bl false, .bl false, .non]) :=
  F.kbinds0 3 [] kwA (fun us mv ws => us ++ mv) (by simp) (fun q h => h) (fun r1 r2 r3 => r1.append r2) (fun D doc pm an cdv ct us mv ws l1 l2 l3 => match us, mv, ws, l1, l2, l3 with
    | [_, _, _], [_, _, _], [], _, _, _ => ⟨_, _, _, _, _, _, rfl, rfl, _, _, _, _, _, _, rfl, rfl, _, _, _, _, _, _, rfl, rfl, rfl⟩)
section
variable {P : Program} {w : World} {K : PySem.W.Frag} {mg : Str → Option Value} {base : Heap} {pc : Ads} {pg : AdG} {p : AdC} {D : Addr}
theorem init_bad {CB : Addr} {H1 H3 : Hp} {E : XK} {Q : VK} {r c : Int} {fr fc : Bool} {sh : Option (List Nat)} (hs : shOk sh) (hg : shGood sh = true) (hr : gridOk r c = false) (e : Ex H1 H3) (q : badG p.CO H1 r c E) :
    ∀ x dx, H3 x = none → H3 dx = none → dx ≠ x → spInit K p CB [.ref x, .int r, .int c, .bl fr, .bl fc, shV sh] (upd (upd H3 dx (.own x)) x (.ins p.C dx [])) (fun v H4 => v = .non ∧ Q (.ref x) H4) E := fun x dx nx ndx ne =>
  ⟨x, dx, _, _, _, _, _, "int", "int", "bool", "bool", true, true, true, true, true, rfl, upd_same,
    ⟨knd_int, knd_int, knd_bl, knd_bl, ⟨true, false, by decide +kernel, by decide +kernel, rfl⟩, ⟨true, false, by decide +kernel, by decide +kernel, rfl⟩, by decide +kernel, by decide +kernel, fun _ => ⟨r, rfl⟩, fun _ => ⟨c, rfl⟩, fun _ => ⟨fr, rfl⟩, fun _ => ⟨fc, rfl⟩, .inl ⟨sh, rfl, hs, hg.symm⟩⟩,
    (fun z => nomatch z), (fun _ z => nomatch z), (fun _ _ z => nomatch z), (fun _ _ _ z => nomatch z), (fun _ _ _ _ z => nomatch z), by
      intro r2 c2 fr2 fc2 sh2 h0 h1 h2 h3 h4 _
      cases h0
      cases h1
      refine ⟨fun _ d H4 s4 nd hd => q d H4 (fun b o hb => ?_) ?_ hd, fun z => absurd (hr.symm.trans z) (by decide)⟩
      · have hb3 := e _ _ hb
        have n1 : b ≠ x := ne_of_none hb3 nx
        have n2 : b ≠ dx := ne_of_none hb3 ndx
        refine s4 _ _ ?_
        rw [upd_ne n1, upd_ne n2]
        exact hb3
      · have n1 : d ≠ x := fun z => by
          rw [z, upd_same] at nd
          cases nd
        have n2 : d ≠ dx := fun z => by
          rw [z, upd_ne ne, upd_same] at nd
          cases nd
        rw [upd_ne n1, upd_ne n2] at nd
        exact fresh_back e nd⟩
end
end K18

set_option Elab.async false
set_option linter.all false
set_option maxRecDepth 100000
set_option maxHeartbeats 4000000
namespace TX
open PySem PySem.Spec PyProof.Rows L2 Evl
section
variable {σ : L2.St} {H : Hp} {t te : TE} {ts : List TE} {acc y : Str} {Q : Str → Hp → Prop} {l m : List Nat} {i : Int}
theorem js_cons (h : Ev t σ H (.str (S m))) (hl : l.length + m.length ≤ 100000) (r : ∀ H1, Ex H H1 → tJs ts (S (l ++ m)) σ H1 Q) : tJs (t :: ts) (S l) σ H Q := h H (Ex.refl H) _ fun H1 e1 => ⟨S m, rfl, by rw [app_S, len_S, List.length_append]; exact sz_of hl, by rw [app_S]; exact r H1 e1⟩
theorem ev_fmtS (h : Ev te σ H (.str (S m))) (hl : m.length ≤ 100000) : Ev (tFmt te) σ H (.str (S m)) := fun H1 e Q q => h H1 e _ fun H2 e2 => .inl ⟨S m, rfl, by rw [len_S]; exact sz_of hl, q H2 e2⟩
theorem num_S (n : Nat) : Str.ofString (toString ((n : Nat) : Int)) = S (TL.numL n) := StrLaws.mk_of_toList (TL.tl_num n)
theorem ev_fmtN {n : Nat} (h : Ev te σ H (.int n)) (hl : n.log2 < 1920) : Ev (tFmt te) σ H (.str (S (TL.numL n))) := fun H1 e Q q => h H1 e _ fun H2 e2 => .inr ⟨n, rfl, hl, by
  have z : (toString ((n : Nat) : Int) : String) = toString ((n : Nat) : Int) := rfl
  show Q (.str (Str.ofString (toString ((n : Nat) : Int)))) H2
  rw [num_S]
  exact q H2 e2⟩
theorem ev_lettersE {K : PySem.W.Frag} {CB : Addr} {E : XK} {m : Nat} (h : Ev te σ H (.int m)) (h1 : 1 ≤ m) (h2 : m ≤ 18278) : Ev (tCall (K18.spLettersOf K CB) [] E (tCons te tNil)) σ H (.str (S (letsF 3 m))) := fun H1 e Q q => h H1 e _ fun H2 e2 => ⟨_, rfl, .inl ⟨m, rfl, h1, h2, fun H3 e3 => q H3 (e2.trans e3)⟩⟩
end
end TX
namespace K18
open PySem PySem.Spec PyProof.Rows L2 Pen EV2 Evl TX LamX
abbrev s_address_text : Stmt := topS 22
abbrev N_address_text : List Str := ["address", "sheet", "column", "row"]
abbrev P_address_text : List Str := ["address"]
theorem sc_address_text : FnScope N_address_text P_address_text (defScope s_address_text) := ⟨rfl, rfl, rfl, by decide +kernel, rfl, by decide +kernel, by decide +kernel⟩
abbrev s_read_address : Stmt := topS 23
abbrev N_read_address : List Str := ["text", "sheet", "mark", "cell", "letters", "fixed_column", "digits", "fixed_row"]
abbrev P_read_address : List Str := ["text"]
theorem sc_read_address : FnScope N_read_address P_read_address (defScope s_read_address) := ⟨rfl, rfl, rfl, by decide +kernel, rfl, by decide +kernel, by decide +kernel⟩
def adrText (n m : Nat) (fr fc : Bool) (sh : Option (List Nat)) : List Nat :=
  (match sh with | none => [] | some l => l ++ [33]) ++ (if fc = true then [36] else []) ++ letsF 3 m ++ (if fr = true then [36] else []) ++ TL.numL n
def spAdrText (K : PySem.W.Frag) (C CB : Addr) : Sp := fun vs H Q E => ∃ y : V, vs = [y] ∧
  ((∃ (a dx : Addr) (n m : Nat) (fr fc : Bool) (sh : Option (List Nat)), y = .ref a ∧ H a = some (.ins C dx (flds n m fr fc sh)) ∧ 1 ≤ n ∧ n ≤ 1000000 ∧ 1 ≤ m ∧ m ≤ 18278 ∧ shOk sh ∧ ∀ H', Same H H' → Q (.str (S (adrText n m fr fc sh))) H') ∨
   (∃ n : String, Knd K H y n ∧ PySem.W.kitOne K (.type n) (.ref C) = some false ∧ bad CB "value" H y E))
section
variable {P : Program} {w : World} {K : PySem.W.Frag} {mg : Str → Option Value} {base : Heap} {pc : Ads} {pg : AdG} {p : AdC} {D : Addr} {f : Addr} {fd : FuncData}
theorem ok_address_text (TC : TxtC K mg pc) (TG : TxtG K mg pg) (T : TxtA6 K mg pc.S p) (Z : TxtB K mg p D) (F : Fun K "address_text" "address_text" s_address_text f fd) : FnOk P w K mg base (L2.CX P w) 5 f fd P_address_text (spAdrText K p.C pc.CB) := by
  have G_letters_of : FnOk P w K mg base (L2.CX P w) 4 pc.f_letters_of pc.d_letters_of P_letters_of (spLettersOf K pc.CB) := ok_letters_of TC
  refine F.okX sc_address_text (fun vs H Q E h => ?_) (fun cdv A outer s H vs Q E hr h => ?_)
  · obtain ⟨y, rfl, _⟩ := h
    rfl
  · obtain ⟨y, rfl, h⟩ := h
    refine ⟨_, (pss_cons (ps_if (pt_not (pt_val (pe_callB (id := "isinstance") call_isi (by rfl) TC.n_isinstance (by decide +kernel) (pa_cons (pv 0) (pa_cons (pe_glob (v := .ref p.C) (by rfl) T.mg_Address rfl) pa_nil))))) (pss_one (ps_raise rfl (takes_of rfl rfl rfl rfl) (pmk_R (n := 1) TC.BadValue.ec (ok_BadValue_init TC.BadValue.F TC.BadValue.ec.ox TC.BadValue.no) (hr.mono (by decide)) (by rfl) TC.BadValue.gC (kp_BadValue_init TC.BadValue.F) hx0 (pa_cons (pv 0) pa_nil)))) pss_nil)
      (pss_cons (ps_set (i := 1) sc_address_text.nd rfl (Or.inl rfl) (pe_ifExp (pt_cmpR op_isN1 (pe_fld (pv 0) rfl) pe_non (nomark _)) pe_str (pe_joined (PJ.cons (pe_fmt (pe_fld (pv 0) rfl)) (PJ.cons pe_str PJ.nil)))))
      (pss_cons (ps_set (i := 2) sc_address_text.nd rfl (Or.inl rfl) (pe_ifExp (pt_val (pe_fld (pv 0) rfl)) pe_str pe_str))
      (pss_cons (ps_set (i := 3) sc_address_text.nd rfl (Or.inl rfl) (pe_ifExp (pt_val (pe_fld (pv 0) rfl)) pe_str pe_str))
      (pss_one (ps_ret (pe_joined (PJ.cons (pe_fmt (pv 1)) (PJ.cons (pe_fmt (pv 2)) (PJ.cons (pe_fmt (pe_call G_letters_of (hr.mono (by decide)) (by rfl) TC.mg_letters_of TC.F_letters_of.kp TC.b_letters_of .nil (passes_call (takes_of rfl rfl rfl rfl) fun _ _ _ _ h => h) (pa_cons (pe_fld (pv 0) rfl) pa_nil))) (PJ.cons (pe_fmt (pv 3)) (PJ.cons (pe_fmt (pe_fld (pv 0) rfl)) PJ.nil)))))))))))), ?_⟩
    rcases h with ⟨a, dx, n, m, fr, fc, sh, rfl, ha, n1, n2, m1, m2, hs, k⟩ | ⟨n, kn, hk, hb⟩
    · have me : PySem.W.kitOne K (.ref p.C) (.ref p.C) = some true := by
        unfold PySem.W.kitOne
        rw [if_pos (by simp)]
      have ei : Ev (tCB (rIsi K) (tCons (tVar 0) (tCons (tC (.ref p.C)) tNil))) [some (.ref a), none, none, none] H (.bl true) := fun H1 e Q q => ⟨_, rfl, .ref a, .ref p.C, .ref p.C, .ref p.C, true, rfl, .own p.C, adr_ty T Z (e _ _ ha), me, q H1 (Ex.refl H1)⟩
      refine q_when (b := false) (et_is (et_not (et_B ei)) rfl) (fun z => nomatch z) fun _ H1 e1 => ?_
      have fa : ∀ {σ : L2.St} {H' : Hp} {f : Str} {v : V}, Ex H H' → σ[0]? = some (some (.ref a)) → NoAttr K p.C f → (flds n m fr fc sh).lookup f = some v → Ev (tFld K (tVar 0) f) σ H' v := fun e h0 n hl => ev_fld (ev_var h0) (e _ _ ha) T.cl n hl
      have en : ∀ {σ : L2.St} {H : Hp} {te : TE} {v : V}, Ev te σ H v → Ev (tOp rIsN te (tC .non)) σ H (.bl (decide (v = .non))) := fun h => ev_op h ev_c fun H1 _ Q q => ⟨rfl, q H1 (Ex.refl H1)⟩
      have hlen : ∀ l, sh = some l → l.length ≤ 1000 := fun l e => by
        subst e
        exact hs.2
      refine q_asg (v := .str (S (match sh with | none => [] | some l => l ++ [33]))) (Evl.ev_if (b := decide (shV sh = .non)) (et_test (en (fa e1 rfl T.n_sheet rfl))) (fun hb => ?_) (fun hb => ?_)) fun H2 e2 => ?_
      · cases sh with
        | none => exact ev_c
        | some l => simp [shV] at hb
      · cases sh with
        | none => simp [shV] at hb
        | some l =>
          have hl := hlen l rfl
          have fl : Ev (tFld K (tVar 0) "sheet") [some (.ref a), none, none, none] H1 (.str (S l)) := fa e1 rfl T.n_sheet rfl
          refine fun H3 e3 Q q => ?_
          refine js_cons (l := []) (m := l) ((ev_fmtS fl (by omega)).mono e3) (by show 0 + l.length ≤ 100000; omega) fun H4 e4 => ?_
          refine js_cons (l := l) (m := [33]) ev_c (by show l.length + 1 ≤ 100000; omega) fun H5 e5 => ?_
          exact q H5 (e4.trans e5)
      refine q_asg (v := .str (S (if fc = true then [36] else []))) (Evl.ev_if (b := fc) (et_B (fa (e1.trans e2) rfl T.n_fixed_column rfl)) (fun hb => by rw [hb]; exact ev_c) (fun hb => by rw [hb]; exact ev_c)) fun H3 e3 => ?_
      refine q_asg (v := .str (S (if fr = true then [36] else []))) (Evl.ev_if (b := fr) (et_B (fa ((e1.trans e2).trans e3) rfl T.n_fixed_row rfl)) (fun hb => by rw [hb]; exact ev_c) (fun hb => by rw [hb]; exact ev_c)) fun H4 e4 => ?_
      have e14 := ((e1.trans e2).trans e3).trans e4
      have hsl : (match sh with | none => [] | some l => l ++ [33]).length ≤ 1001 := by
        cases sh with
        | none => decide
        | some l =>
          have := hlen l rfl
          show (l ++ [33]).length ≤ 1001
          rw [List.length_append]
          show l.length + 1 ≤ 1001
          omega
      have hf1 : ∀ b : Bool, (if b = true then [36] else ([] : List Nat)).length ≤ 1 := fun b => by cases b <;> decide
      have h1 := hf1 fc
      have h2 := hf1 fr
      have h3 := lets_len 3 m
      have h4 : (TL.numL n).length ≤ 7 := TL.numL_len (by decide) (by omega)
      have hlog : n.log2 < 1920 := (Nat.log2_lt (by omega)).2 (Nat.lt_of_le_of_lt n2 (by decide))
      show tRet _ _ _ _
      refine js_cons (l := []) (ev_fmtS (ev_var rfl) (by omega)) (by show 0 + _ ≤ 100000; omega) fun H5 e5 => ?_
      refine js_cons (ev_fmtS (ev_var rfl) (by omega)) (by rw [List.nil_append]; omega) fun H6 e6 => ?_
      have e16 := (e14.trans e5).trans e6
      refine js_cons (ev_fmtS (ev_lettersE (fa e16 rfl T.n_column rfl) m1 m2) (by omega)) (by simp only [List.nil_append, List.length_append]; omega) fun H7 e7 => ?_
      refine js_cons (ev_fmtS (ev_var rfl) (by omega)) (by simp only [List.nil_append, List.length_append]; omega) fun H8 e8 => ?_
      have e18 := (e16.trans e7).trans e8
      refine js_cons (ev_fmtN (fa e18 rfl T.n_row rfl) hlog) (by simp only [List.nil_append, List.length_append]; omega) fun H9 e9 => ?_
      exact k H9 (e18.trans e9)
    · have ei : Ev (tCB (rIsi K) (tCons (tVar 0) (tCons (tC (.ref p.C)) tNil))) [some y, none, none, none] H (.bl false) := fun H1 e Q q => ⟨_, rfl, y, .ref p.C, .type n, .ref p.C, false, rfl, .own p.C, kn H1 e, hk, q H1 (Ex.refl H1)⟩
      refine q_when (b := true) (et_is (et_not (et_B ei)) rfl) (fun _ H1 e1 => ?_) fun z => nomatch z
      exact ⟨_, rfl, rfl, rfl, by decide, rr_e1 (Q := E) fun d H' nd sm hd => hb d H' (e1.trans sm) (fresh_back e1 nd) hd⟩
end
end K18

set_option Elab.async false
set_option linter.all false
set_option maxRecDepth 100000
set_option maxHeartbeats 4000000
namespace TX
open PySem PySem.Spec PyProof.Rows L2 Evl
section
variable {K : PySem.W.Frag} {σ : L2.St} {H : Hp} {te : TE} {l : List Nat}
abbrev rRp : V → List V → Hp → VK → Prop := fun x xs H Q => ∃ a b, x = .str a ∧ xs = [.str b] ∧ (b.length == 0) = false ∧ a.length ≤ sizeLine ∧
    ∀ p, H p = none → Q (.ref p) (upd H p (.tup [.str (Txt.rpartition a b).1, .str (Txt.rpartition a b).2.1, .str (Txt.rpartition a b).2.2]))
/-- the text before the last '!', that sign, the text behind it -/
def rParts (l : List Nat) : List Nat × List Nat × List Nat := match lastBang l with
  | none => ([], [], l)
  | some (a, b) => (a, [33], b)
theorem rpart_P (l : List Nat) : Txt.rpartition (S l) (S [33]) = (S (rParts l).1, S (rParts l).2.1, S (rParts l).2.2) := by
  rw [rpart_S]
  unfold rParts
  cases lastBang l with
  | none => rfl
  | some p => rfl
theorem q_rp {g : TG} {tz : TS} {D : Ends} (h : Ev te σ H (.str (S l))) (hl : l.length ≤ 100000) (k : ∀ t H1, H t = none → Ex H H1 → H1 t = some (.tup [.str (S (rParts l).1), .str (S (rParts l).2.1), .str (S (rParts l).2.2)]) → g (.ref t) σ H1 (tz D)) :
    tSeq (tAsg (tBM K "str" rRp te (tCons (tC (.str (Str.ofString "!"))) tNil)) g) tz D σ H :=
  h H (Ex.refl H) _ fun H1 e1 => ⟨rfl, S l, S [33], rfl, rfl, rfl, by rw [len_S]; exact sz_of hl, fun t ht => k t _ (fresh_back e1 ht) (e1.trans (Ex.new ht)) (by rw [upd_same, rpart_P])⟩
theorem et_truS {m : List Nat} (hl : m.length ≤ 100000) (h : Ev te σ H (.str (S m))) : EvT (fun σ H Q => te σ H fun x H' => ∃ k, TruV K x H' k ∧ Q k H') σ H (decide (0 < m.length)) := fun H1 e _ q => h H1 e _ fun H2 e2 => ⟨_, ⟨by rw [len_S]; exact sz_of hl, by
  rw [len_S]
  cases m with
  | nil => rfl
  | cons c m =>
    have z : ((((c :: m).length : Nat) : Int) != 0) = true := by
      rw [List.length_cons]
      exact bne_iff_ne.mpr (by omega)
    rw [z]
    exact decide_eq_true (by rw [List.length_cons]; omega)⟩, q H2 e2⟩
end
theorem q_whenN {t : TT} {b : Bool} {σ : L2.St} {H : Hp} {tu tz : TS} {D : Ends} {r : VK} (h : EvT t σ H b) (h1 : b = true → ∀ H1, Ex H H1 → tu { D with nx := tz D } σ H1) (h2 : b = false → ∀ H1, Ex H H1 → tz D σ H1) : Ends.nx { nx := tSeq (tIfS t tu tNext) tz D, rt := r } σ H := q_when h h1 h2
theorem fold_ge : ∀ (l : List Nat) (a : Nat), a ≤ l.foldl (fun acc c => acc * 10 + (c - 48)) a
  | [], a => Nat.le_refl a
  | c :: l, a => Nat.le_trans (by omega) (fold_ge l (a * 10 + (c - 48)))
end TX
namespace K18
open PySem PySem.Spec PyProof.Rows L2 Pen EV2 Evl TX LamX
theorem colVal {l : List Nat} (h : colText l = true) : 1 ≤ val (l.map up) ∧ val (l.map up) ≤ 18278 := by
  unfold colText at h
  simp only [Bool.and_eq_true, decide_eq_true_eq] at h
  obtain ⟨⟨h1, h2⟩, h3⟩ := h
  have rng := up_rng h3
  match l, h1, h2, rng with
  | [a], _, _, rng =>
    have ra := rng (up a) (by simp)
    show 1 ≤ (0 * 26 + ((up a - 65 : Nat) : Int) + 1) ∧ (0 * 26 + ((up a - 65 : Nat) : Int) + 1) ≤ 18278
    omega
  | [a, b], _, _, rng =>
    have ra := rng (up a) (by simp)
    have rb := rng (up b) (by simp)
    show 1 ≤ ((0 * 26 + ((up a - 65 : Nat) : Int) + 1) * 26 + ((up b - 65 : Nat) : Int) + 1) ∧ ((0 * 26 + ((up a - 65 : Nat) : Int) + 1) * 26 + ((up b - 65 : Nat) : Int) + 1) ≤ 18278
    omega
  | [a, b, c], _, _, rng =>
    have ra := rng (up a) (by simp)
    have rb := rng (up b) (by simp)
    have rc := rng (up c) (by simp)
    show 1 ≤ (((0 * 26 + ((up a - 65 : Nat) : Int) + 1) * 26 + ((up b - 65 : Nat) : Int) + 1) * 26 + ((up c - 65 : Nat) : Int) + 1) ∧ (((0 * 26 + ((up a - 65 : Nat) : Int) + 1) * 26 + ((up b - 65 : Nat) : Int) + 1) * 26 + ((up c - 65 : Nat) : Int) + 1) ≤ 18278
    omega
  | a :: b :: c :: d :: r, _, h2, _ => exact absurd h2 (by show ¬ r.length + 4 ≤ 3; omega)
def numVal (l : List Nat) : Int := (NumText.digitsVal l : Nat)
theorem rowVal {l : List Nat} (h : rowText l = true) : PySem.intText? (S l) = some (numVal l) ∧ l.length ≤ 7 ∧ 1 ≤ numVal l ∧ numVal l ≤ 1000000 := by
  unfold rowText at h
  simp only [Bool.and_eq_true, decide_eq_true_eq] at h
  obtain ⟨⟨⟨⟨h1, h2⟩, h3⟩, h4⟩, h5⟩ := h
  have ne : l ≠ [] := fun e => by
    subst e
    cases h1
  have z := PySem.intText_digits (x := S l) (by rw [toList_S]; intro d hd; exact of_decide_eq_true (List.all_eq_true.mp h3 d hd)) (by rw [toList_S]; exact ne) (by rw [len_S]; omega)
  rw [toList_S] at z
  refine ⟨z, h2, ?_, by unfold numVal; omega⟩
  cases l with
  | nil => exact absurd rfl ne
  | cons c l =>
    have hc : 48 ≤ c ∧ c ≤ 57 := of_decide_eq_true (List.all_eq_true.mp h3 c (List.mem_cons_self ..))
    have hn : c ≠ 48 := fun z => by
      rw [z] at h4
      simp at h4
    have g := fold_ge l (0 * 10 + (c - 48))
    unfold numVal
    have g2 : 0 * 10 + (c - 48) ≤ NumText.digitsVal (c :: l) := g
    omega
/-- a cell's text -/
def parseC (b : List Nat) (sh : Option (List Nat)) : Option (Int × Int × Bool × Bool × Option (List Nat)) :=
  if colText (cellParts b).1 = true ∧ rowText (cellParts b).2.2.1 = true then some (numVal (cellParts b).2.2.1, val ((cellParts b).1.map up), (cellParts b).2.2.2, (cellParts b).2.1, sh) else none
def parseA (l : List Nat) : Option (Int × Int × Bool × Bool × Option (List Nat)) := match lastBang l with
  | none => parseC l none
  | some (a, b) => if sheetOk a = true then parseC b (some a) else none
def spReadA (K : PySem.W.Frag) (C CB CN : Addr) : Sp := fun vs H Q E => ∃ v : V, vs = [v] ∧
  ((∃ l : List Nat, v = .str (S l) ∧ (∀ c ∈ l, c < 128) ∧ l.length ≤ 1000 ∧ (∀ r c fr fc sh, parseA l = some (r, c, fr, fc, sh) → ∀ x dx H', H x = none → Same H H' → H' x = some (.ins C dx (flds r c fr fc sh)) → Q (.ref x) H') ∧ (parseA l = none → bad CN "name" H v E)) ∨
  (∃ n : String, Knd K H v n ∧ kitB n "str" = some false ∧ bad CB "value" H v E))
theorem parts_asc {l : List Nat} (h : ∀ c ∈ l, c < 128) : (∀ c ∈ (cellParts l).1, c < 128) ∧ (∀ c ∈ (cellParts l).2.2.1, c < 128) ∧ (cellParts l).1.length ≤ l.length ∧ (cellParts l).2.2.1.length ≤ l.length := by
  have hs : ∀ c : List Nat, (if c.head? = some 36 then c.tail else c).Sublist c := fun c => by
    by_cases z : c.head? = some 36
    · rw [if_pos z]
      exact List.tail_sublist c
    · rw [if_neg z]
      exact List.Sublist.refl c
  have s1 : (cellParts l).1.Sublist l := (List.takeWhile_sublist _).trans (hs l)
  have s2 : (cellParts l).2.2.1.Sublist l := (hs _).trans ((List.dropWhile_sublist _).trans (hs l))
  exact ⟨fun c hc => h c (s1.subset hc), fun c hc => h c (s2.subset hc), s1.length_le, s2.length_le⟩
section
variable {P : Program} {w : World} {K : PySem.W.Frag} {mg : Str → Option Value} {base : Heap} {pc : Ads} {pg : AdG} {p : AdC} {D : Addr} {f : Addr} {fd : FuncData}
theorem ok_read_address (TC : TxtC K mg pc) (TG : TxtG K mg pg) (T : TxtA6 K mg pc.S p) (Z : TxtB K mg p D) (F : Fun K "read_address" "read_address" s_read_address f fd) : FnOk P w K mg base (L2.CX P w) 6 f fd P_read_address (spReadA K p.C pc.CB pc.CN) := by
  have G_check_string : FnOk P w K mg base (L2.CX P w) 3 pc.f_check_string pc.d_check_string P_check_string (spString K pc.CB) := ok_check_string TC
  have G_is_column_text : FnOk P w K mg base CX0 2 pc.f_is_column_text pc.d_is_column_text P_is_column_text (spAlpha colText) := ok_is_column_text TC
  have G_column_of : FnOk P w K mg base (L2.CX P w) 4 pc.f_column_of pc.d_column_of P_column_of (spColumnOf K pc.CB pc.CN) := ok_column_of TC
  have G_is_sheet_name : FnOk P w K mg base CX0 1 pg.f_is_sheet_name pg.d_is_sheet_name P_is_sheet_name (spSheetName K) := ok_is_sheet_name TC TG
  have G_split_cell : FnOk P w K mg base CX0 2 pg.f_split_cell pg.d_split_cell P_split_cell spSplit := oksplit_cell TC TG
  have G_is_row_text : FnOk P w K mg base CX0 1 pg.f_is_row_text pg.d_is_row_text P_is_row_text (spAlpha rowText) := ok_is_row_text TC TG
  refine F.okX sc_read_address (fun vs H Q E h => ?_) (fun cdv A outer s H vs Q E hr h => ?_)
  · obtain ⟨y, rfl, _⟩ := h
    rfl
  · obtain ⟨y, rfl, h⟩ := h
    refine ⟨_, (pss_cons (ps_expr (pe_call G_check_string (hr.mono (by decide)) (by rfl) TC.mg_check_string TC.F_check_string.kp TC.b_check_string .nil (passes_call (takes_of rfl rfl rfl rfl) fun _ _ _ _ h => h) (pa_cons (pv 0) pa_nil)))
      (pss_cons (ps_asg (pe_bm PySem.F.plainAttrs_str PySem.F.slot_str_rpartition PySem.F.type_str_rpartition mt_rpartition (pv 0) (pa_cons pe_str pa_nil)) (pg_tup (by rfl) (pgs_cons (pg_name (i := 1) sc_read_address.nd rfl (Or.inl rfl)) (pgs_cons (pg_name (i := 2) sc_read_address.nd rfl (Or.inl rfl)) (pgs_cons (pg_name (i := 3) sc_read_address.nd rfl (Or.inl rfl)) pgs_nil)))))
      (pss_cons (ps_if (PW.pt (pw_and (pt_truth (pv 2) (by intro _; rfl)) (pw_and1 (pt_not (pt_val (pe_call G_is_sheet_name (hr.mono (by decide)) (by rfl) TG.mg_is_sheet_name TG.F_is_sheet_name.kp TG.b_is_sheet_name .nil pass0 (pa_cons (pv 1) pa_nil))))))) (pss_one (ps_raise rfl (takes_of rfl rfl rfl rfl) (pmk_R (n := 1) TC.NotAName.ec (ok_NotAName_init TC.NotAName.F TC.NotAName.ec.ox TC.NotAName.no) (hr.mono (by decide)) (by rfl) TC.NotAName.gC (kp_NotAName_init TC.NotAName.F) hx0 (pa_cons (pv 0) pa_nil)))) pss_nil)
      (pss_cons (ps_asg (pe_call G_split_cell (hr.mono (by decide)) (by rfl) TG.mg_split_cell TG.F_split_cell.kp TG.b_split_cell .nil pass0 (pa_cons (pv 3) pa_nil)) (pg_tup (by rfl) (pgs_cons (pg_name (i := 4) sc_read_address.nd rfl (Or.inl rfl)) (pgs_cons (pg_name (i := 5) sc_read_address.nd rfl (Or.inl rfl)) (pgs_cons (pg_name (i := 6) sc_read_address.nd rfl (Or.inl rfl)) (pgs_cons (pg_name (i := 7) sc_read_address.nd rfl (Or.inl rfl)) pgs_nil))))))
      (pss_cons (ps_if (PW.pt (pw_or (pt_not (pt_val (pe_call G_is_column_text (hr.mono (by decide)) (by rfl) TC.mg_is_column_text TC.F_is_column_text.kp TC.b_is_column_text .nil pass0 (pa_cons (pv 4) pa_nil)))) (pw_or1 (pt_not (pt_val (pe_call G_is_row_text (hr.mono (by decide)) (by rfl) TG.mg_is_row_text TG.F_is_row_text.kp TG.b_is_row_text .nil pass0 (pa_cons (pv 6) pa_nil))))))) (pss_one (ps_raise rfl (takes_of rfl rfl rfl rfl) (pmk_R (n := 1) TC.NotAName.ec (ok_NotAName_init TC.NotAName.F TC.NotAName.ec.ox TC.NotAName.no) (hr.mono (by decide)) (by rfl) TC.NotAName.gC (kp_NotAName_init TC.NotAName.F) hx0 (pa_cons (pv 0) pa_nil)))) pss_nil)
      (pss_one (ps_ret (pe_makeK (n := 2) Z.mkA (ok_Address_init TC TG T) (hr.mono (by decide)) (by rfl) T.mg_Address (kb_Address T.F_init) (passes_call (takes_of rfl rfl rfl rfl) fun _ _ _ _ h => h) (pa_cons (pe_callTy (T := "int") call_int_str (by rfl) TC.n_int (by decide +kernel) (pa_cons (pv 6) pa_nil)) (pa_cons (pe_call G_column_of (hr.mono (by decide)) (by rfl) TC.mg_column_of TC.F_column_of.kp TC.b_column_of .nil (passes_call (takes_of rfl rfl rfl rfl) fun _ _ _ _ h => h) (pa_cons (pv 4) pa_nil)) pa_nil)) (pk_cons (pv 7) (pk_cons (pv 5) (pk_cons (pe_ifExp (pt_truth (pv 2) (by intro _; rfl)) (pv 1) pe_non) pk_nil))))))))))), ?_⟩
    rcases h with ⟨l, rfl, ha, hl, h1, h2⟩ | ⟨n, kn, hk, h1⟩
    · refine q_drop (v := .non) (fun H1 e Q q => ⟨_, rfl, .str (S l), "str", true, rfl, knd_str, by decide +kernel, fun _ H' s => q H' s, fun z => nomatch z⟩) fun H1 e1 => ?_
      refine q_rp (K := K) (ev_var rfl) (by omega) fun t H2 nt e2 ht => ?_
      have hP : (∀ c ∈ (rParts l).1, c < 128) ∧ (rParts l).1.length ≤ 1000 ∧ (rParts l).2.1.length ≤ 1 ∧ (∀ c ∈ (rParts l).2.2, c < 128) ∧ (rParts l).2.2.length ≤ 1000 ∧
          parseA l = if 0 < (rParts l).2.1.length then (if sheetOk (rParts l).1 = true then parseC (rParts l).2.2 (some (rParts l).1) else none) else parseC (rParts l).2.2 none := by
        unfold rParts parseA
        cases q : lastBang l with
        | none => exact ⟨fun c h => by simp at h, Nat.zero_le _, Nat.zero_le _, ha, hl, rfl⟩
        | some p =>
          obtain ⟨a, b⟩ := p
          obtain ⟨g1, _⟩ := bang_some q
          have gl := congrArg List.length g1
          rw [List.length_append, List.length_cons] at gl
          exact ⟨fun c h => ha c (by rw [g1]; exact List.mem_append_left _ h), by show a.length ≤ 1000; omega, Nat.le_refl 1, fun c h => ha c (by rw [g1]; exact List.mem_append_right _ (List.mem_cons_of_mem _ h)), by show b.length ≤ 1000; omega, rfl⟩
      generalize (rParts l).1 = a at hP ht
      generalize (rParts l).2.1 = mk at hP ht
      generalize (rParts l).2.2 = b at hP ht
      obtain ⟨aa, al, ml, ba, bl, hpa⟩ := hP
      rw [hpa] at h1 h2
      refine ⟨t, _, rfl, st_of ht, rfl, _, _, rfl, _, _, rfl, _, _, rfl, rfl, ?_⟩
      have e12 := e1.trans e2
      have eS : Ev (tCall (spSheetName K) [] E0 (tCons (tVar 1) tNil)) [some (.str (S l)), some (.str (S a)), some (.str (S mk)), some (.str (S b)), none, none, none, none] H2 (.bl (sheetOk a)) := fun H3 e Q q => ⟨_, rfl, .str (S a), rfl, .inl ⟨a, rfl, aa, al, fun H' s => q H' s⟩⟩
      refine q_when (et_and (et_truS (K := K) (m := mk) (by omega) (ev_var rfl)) fun _ => et_not (et_B eS)) (fun hb H3 e3 => ?_) (fun hb H3 e3 => ?_)
      · have e13 := e12.trans e3
        simp only [Bool.and_eq_true, decide_eq_true_eq, Bool.not_eq_true'] at hb
        rw [if_pos hb.1, hb.2] at h2
        exact ⟨_, rfl, rfl, rfl, by decide, rr_e1 (Q := E) fun d H' nd sm hd => h2 rfl d H' (e13.trans sm) (fresh_back e13 nd) hd⟩
      · have e13 := e12.trans e3
        have hz : ∃ sh, shOk sh ∧ shGood sh = true ∧ (if 0 < mk.length then (if sheetOk a = true then parseC b (some a) else none) else parseC b none) = parseC b sh ∧ sh = if 0 < mk.length then some a else none := by
          by_cases m0 : 0 < mk.length
          · have g : sheetOk a = true := by
              rw [decide_eq_true m0] at hb
              simpa using hb
            exact ⟨some a, ⟨aa, al⟩, g, by rw [if_pos m0, if_pos g], by rw [if_pos m0]⟩
          · exact ⟨none, True.intro, rfl, by rw [if_neg m0], by rw [if_neg m0]⟩
        obtain ⟨sh, so, sg2, hpc, hsh⟩ := hz
        rw [hpc] at h1 h2
        obtain ⟨pa1, pa2, pl1, pl2⟩ := parts_asc ba
        refine ⟨_, rfl, b, rfl, ba, bl, fun u H4 nu sm hu => ?_⟩
        have e14 : Ex H H4 := e13.trans sm
        revert h1 h2
        unfold parseC
        generalize (cellParts b).1 = x at *
        generalize (cellParts b).2.1 = fc at *
        generalize (cellParts b).2.2.1 = y at *
        generalize (cellParts b).2.2.2 = fr at *
        intro h2 h1
        refine ⟨u, _, rfl, st_of hu, rfl, _, _, rfl, _, _, rfl, _, _, rfl, _, _, rfl, rfl, ?_⟩
        have eX : Ev (tCall (spAlpha colText) [] E0 (tCons (tVar 4) tNil)) [some (.str (S l)), some (.str (S a)), some (.str (S mk)), some (.str (S b)), some (.str (S x)), some (.bl fc), some (.str (S y)), some (.bl fr)] H4 (.bl (colText x)) := fun H5 e Q q => ⟨_, rfl, x, rfl, pa1, by omega, fun H' s => q H' s⟩
        have eY : Ev (tCall (spAlpha rowText) [] E0 (tCons (tVar 6) tNil)) [some (.str (S l)), some (.str (S a)), some (.str (S mk)), some (.str (S b)), some (.str (S x)), some (.bl fc), some (.str (S y)), some (.bl fr)] H4 (.bl (rowText y)) := fun H5 e Q q => ⟨_, rfl, y, rfl, pa2, by omega, fun H' s => q H' s⟩
        refine q_whenN (et_or (et_not (et_B eX)) fun _ => et_not (et_B eY)) (fun hb H5 e5 => ?_) (fun hb H5 e5 => ?_)
        · have e15 := e14.trans e5
          have hn : ¬ (colText x = true ∧ rowText y = true) := fun z => by
            rw [z.1, z.2] at hb
            cases hb
          rw [if_neg hn] at h2
          exact ⟨_, rfl, rfl, rfl, by decide, rr_e1 (Q := E) fun d H' nd sm hd => h2 rfl d H' (e15.trans sm) (fresh_back e15 nd) hd⟩
        · have e15 := e14.trans e5
          have hx : colText x = true ∧ rowText y = true := by
            simpa using hb
          rw [if_pos hx] at h1
          obtain ⟨r1, r2, r3, r4⟩ := rowVal hx.2
          obtain ⟨c1, c2⟩ := colVal hx.1
          have eI : ∀ {Ha : Hp}, Ev (tCB (fun xs H Q => ∃ a n, xs = [V.str a] ∧ PySem.intText? a = some n ∧ a.length ≤ 640 ∧ Q (.int n) H) (tCons (tVar 6) tNil)) [some (.str (S l)), some (.str (S a)), some (.str (S mk)), some (.str (S b)), some (.str (S x)), some (.bl fc), some (.str (S y)), some (.bl fr)] Ha (.int (numVal y)) := fun Hb e Q q => ⟨_, rfl, _, _, rfl, r1, by rw [len_S]; omega, q Hb (Ex.refl Hb)⟩
          have eC : ∀ {Ha : Hp}, Ev (tCall (spColumnOf K pc.CB pc.CN) [] E (tCons (tVar 4) tNil)) [some (.str (S l)), some (.str (S a)), some (.str (S mk)), some (.str (S b)), some (.str (S x)), some (.bl fc), some (.str (S y)), some (.bl fr)] Ha (.int (val (x.map up))) := fun Hb e Q q => ⟨_, rfl, .str (S x), rfl, .inl ⟨x, rfl, pa1, by omega, fun _ H' s => q H' s, fun z => absurd (hx.1.symm.trans z) (by decide)⟩⟩
          refine s_makeK (vs := [.int (numVal y), .int (val (x.map up))]) (zs := [.bl fr, .bl fc, shV sh]) (ea_cons eI (ea_cons eC ea_nil)) (ea_cons (ev_var rfl) (ea_cons (ev_var rfl) (ea_cons (Evl.ev_if (et_truS (K := K) (m := mk) (by omega) (ev_var rfl)) (fun m0 => ?_) (fun m0 => ?_)) ea_nil))) rfl rfl fun H6 e6 => ?_
          · have m0 := of_decide_eq_true m0
            rw [if_pos m0] at hsh
            rw [hsh]
            exact ev_var rfl
          · have m0 := of_decide_eq_false m0
            rw [if_neg m0] at hsh
            rw [hsh]
            exact ev_c
          · have hg : gridOk (numVal y) (val (x.map up)) = true := by
              unfold gridOk
              rw [decide_eq_true ⟨r3, r4⟩, decide_eq_true ⟨c1, c2⟩]
              rfl
            exact init_good (p := p) so sg2 hg (e15.trans e6) fun z dz H7 nz e7 h7 => h1 _ _ _ _ _ rfl z dz H7 nz e7 h7
    · exact ⟨_, rfl, y, n, false, rfl, kn, hk, (fun z => nomatch z), fun _ => h1⟩
end
end K18

set_option Elab.async false
set_option linter.all false
set_option maxRecDepth 100000
set_option maxHeartbeats 4000000
namespace TX
/-- a text with some of its letters small -/
inductive Mx : List Nat → List Nat → Prop
  | nil : Mx [] []
  | cons (x y : Nat) {l m : List Nat} : (y = x ∨ y = low x) → Mx l m → Mx (x :: l) (y :: m)
theorem Mx.snoc {l m : List Nat} {x y : Nat} (h : Mx l m) (e : y = x ∨ y = low x) : Mx (l ++ [x]) (m ++ [y]) := by
  induction h with
  | nil => exact .cons x y e .nil
  | cons a b q _ ih => exact .cons a b q ih
theorem Mx.len {l m : List Nat} (h : Mx l m) : m.length = l.length := by
  induction h with
  | nil => rfl
  | cons a b q _ ih => rw [List.length_cons, List.length_cons, ih]
theorem low_lt {c : Nat} (h : c < 128) : low c < 128 := by
  unfold low
  split <;> omega
theorem Mx.asc {l m : List Nat} (h : Mx l m) (ha : ∀ c ∈ l, c < 128) : ∀ c ∈ m, c < 128 := by
  induction h with
  | nil => intro c hc; cases hc
  | cons a b q _ ih =>
    intro c hc
    have h1 := ha a (List.mem_cons_self ..)
    rcases List.mem_cons.mp hc with z | z
    · rw [z]
      rcases q with q | q
      · rw [q]; exact h1
      · rw [q]; exact low_lt h1
    · exact ih (fun d hd => ha d (List.mem_cons_of_mem _ hd)) c z
theorem Mx.split : ∀ {a b m : List Nat}, Mx (a ++ b) m → ∃ u v, m = u ++ v ∧ Mx a u ∧ Mx b v
  | [], b, m, h => ⟨[], m, rfl, .nil, h⟩
  | x :: a, b, _, .cons _ y e h => by
    obtain ⟨u, v, rfl, h1, h2⟩ := Mx.split h
    exact ⟨y :: u, v, rfl, .cons x y e h1, h2⟩
end TX
namespace K18
open PySem PySem.Spec PyProof.Rows L2 Pen EV2 Evl TX LamX
def spMixA : Sp := fun vs H Q _ => ∃ (q c : Addr) (cs : List Int) (i r : Int) (l : List Nat), vs = [.ref q, .str (S l)] ∧ PenAt H q c cs i r ∧ i < 2 ^ 38 ∧ (∀ x ∈ l, x < 128) ∧ l.length ≤ 1000 ∧
  ∀ (m : List Nat) (i' r' : Int) (H' : Hp), Mx l m → i ≤ i' → i' ≤ i + l.length → Sib q H H' → PenAt H' q c cs i' r' → Q (.str (S m)) H'
section
variable {P : Program} {w : World} {K : PySem.W.Frag} {mg : Str → Option Value} {base : Heap} {p : AdL}
theorem ok_mixed (T : TxtH K mg p) : FnOk P w K mg base CX0 2 p.f_mixed_case p.d_mixed_case P_l_mixed_case spMixA := by
  have TA : TxtA mg := ⟨T.n_list, T.n_int, T.n_len⟩
  have G_l_draw : FnOk P w K mg base CX0 1 p.f_draw p.d_draw P_l_draw spDraw := ok_l_draw T.F_l_draw TA
  refine T.F_l_mixed_case.ok sc_l_mixed_case (fun vs H Q E h => ?_) (fun cdv A outer s H vs Q E hr h => ?_)
  · obtain ⟨q, c, cs, i, r, l, rfl, _⟩ := h
    rfl
  · obtain ⟨q, c, cs, i, r, l, rfl, D, hi, hc, hl, k⟩ := h
    refine ⟨_, (pss_cons (ps_set (i := 2) sc_l_mixed_case.nd rfl (Or.inl rfl) pe_str)
      (pss_cons (ps_for PassesOwn.never rfl (pi_str (pv 1)) (pg_name (i := 3) sc_l_mixed_case.nd rfl (Or.inl rfl)) (pss_one (ps_set (i := 2) sc_l_mixed_case.nd rfl (Or.inl rfl) (pe_op op_add_str (pv 2) (pe_ifExp (pt_cmpR op_eq (pe_call G_l_draw (hr.mono (by decide)) (by rfl) T.mg_l_draw T.F_l_draw.kp T.b_l_draw .nil pass0 (pa_cons (pv 0) (pa_cons pe_int pa_nil))) pe_int (nomark _)) (pe_bm0 PySem.F.plainAttrs_str PySem.F.slot_str_lower PySem.F.type_str_lower mt_lower (pv 3)) (pv 3))))))
      (pss_one (ps_ret (pv 2))))), ?_⟩
    refine q_asg (v := .str (S [])) ev_c fun H0 e0 => ?_
    refine q_forS (l := l) (ev_var rfl) (fun j σ' H' => ∃ (m : List Nat) (i' r' : Int) (t : Option V), σ' = [some (.ref q), some (.str (S l)), some (.str (S m)), t] ∧ Mx (l.take j) m ∧ i ≤ i' ∧ i' ≤ i + j ∧ Sib q H H' ∧ PenAt H' q c cs i' r')
      (fun H1 e1 => ⟨[], i, r, none, rfl, .nil, Int.le_refl _, by omega, fun b o _ h => (e0.trans e1) b o h, D.keep (e0.trans e1)⟩) ?_ ?_
    · rintro j x σ' H1 hx ⟨m, i1, r1, t, rfl, hm, h1, h2, sb, D1⟩
      have hj : j < l.length := (List.getElem?_eq_some_iff.mp hx).1
      have hxr := hc x (List.mem_of_getElem? hx)
      have ml : m.length ≤ j := by
        rw [hm.len, List.length_take]
        omega
      refine ⟨_, rfl, _, rfl, q, c, cs, i1, r1, 2, rfl, D1, by omega, by decide, by decide, fun z i2 r2 H2 z0 z1 j0 j1 sb2 D2 => ?_⟩
      refine ⟨rfl, _, rfl, ?_⟩
      have tk : l.take (j + 1) = l.take j ++ [x] := by
        rw [List.take_add_one, hx]
        rfl
      have fin : ∀ y : Nat, (y = x ∨ y = low x) → ∃ (m' : List Nat) (i' r' : Int) (t : Option V), [some (V.ref q), some (.str (S l)), some (.str (S (m ++ [y]))), some (sg x)] = [some (V.ref q), some (.str (S l)), some (.str (S m')), t] ∧ Mx (l.take (j + 1)) m' ∧ i ≤ i' ∧ i' ≤ i + ((j + 1 : Nat) : Int) ∧ Sib q H H2 ∧ PenAt H2 q c cs i' r' := fun y e1 =>
        ⟨m ++ [y], i2, r2, _, rfl, by rw [tk]; exact hm.snoc e1, by omega, by omega, sb.trans sb2, D2⟩
      refine ite2 (fun _ => ?_) (fun _ => ?_)
      · have g := fin (low x) (.inr rfl)
        refine ⟨_, rfl, rfl, S [x], rfl, rfl, by rw [len_S]; show 1 ≤ 5592405; decide, S m, _, rfl, rfl, ?_, ?_⟩
        · rw [low_of x (by omega), len_S, len_S]
          exact sz_of (by show m.length + 1 ≤ 100000; omega)
        · rw [low_of x (by omega), app_S]
          exact g
      · have g := fin x (.inl rfl)
        refine ⟨_, rfl, S m, S [x], rfl, rfl, ?_, ?_⟩
        · rw [len_S, len_S]
          exact sz_of (by show m.length + 1 ≤ 100000; omega)
        · rw [app_S]
          exact g
    · rintro σ' H1 ⟨m, i1, r1, t, rfl, hm, h1, h2, sb, D1⟩
      rw [List.take_length] at hm
      exact ⟨_, rfl, k m i1 r1 H1 hm h1 h2 sb D1⟩
end
end K18

set_option Elab.async false
set_option linter.all false
set_option maxRecDepth 100000
set_option maxHeartbeats 4000000
namespace K18
open PySem PySem.Spec PyProof.Rows L2 Pen EV2 Evl TX LamX
abbrev s_l_row_text : Stmt := topS 61
abbrev N_l_row_text : List Str := ["_law_number", "_law_is_fixed"]
abbrev P_l_row_text : List Str := ["_law_number", "_law_is_fixed"]
theorem sc_l_row_text : FnScope N_l_row_text P_l_row_text (defScope s_l_row_text) := ⟨rfl, rfl, rfl, by decide +kernel, rfl, by decide +kernel, by decide +kernel⟩
abbrev s_l_column_text : Stmt := topS 62
abbrev N_l_column_text : List Str := ["_law_number", "_law_is_fixed"]
abbrev P_l_column_text : List Str := ["_law_number", "_law_is_fixed"]
theorem sc_l_column_text : FnScope N_l_column_text P_l_column_text (defScope s_l_column_text) := ⟨rfl, rfl, rfl, by decide +kernel, rfl, by decide +kernel, by decide +kernel⟩
abbrev s_l_sheet_text : Stmt := topS 63
abbrev N_l_sheet_text : List Str := ["_law_sheet"]
abbrev P_l_sheet_text : List Str := ["_law_sheet"]
theorem sc_l_sheet_text : FnScope N_l_sheet_text P_l_sheet_text (defScope s_l_sheet_text) := ⟨rfl, rfl, rfl, by decide +kernel, rfl, by decide +kernel, by decide +kernel⟩
structure AdN where
  f_row_text : Addr
  d_row_text : FuncData
  f_column_text : Addr
  d_column_text : FuncData
  f_sheet_text : Addr
  d_sheet_text : FuncData
structure TxtN (K : PySem.W.Frag) (mg : Str → Option Value) (p : AdN) : Prop where
  n_str : mg "str" = none
  mg_l_row_text : mg "_law_row_text" = some (.ref p.f_row_text)
  F_l_row_text : Fun K "_law_row_text" "_law_row_text" s_l_row_text p.f_row_text p.d_row_text
  b_l_row_text : Binds K p.d_row_text P_l_row_text []
  mg_l_column_text : mg "_law_column_text" = some (.ref p.f_column_text)
  F_l_column_text : Fun K "_law_column_text" "_law_column_text" s_l_column_text p.f_column_text p.d_column_text
  b_l_column_text : Binds K p.d_column_text P_l_column_text []
  mg_l_sheet_text : mg "_law_sheet_text" = some (.ref p.f_sheet_text)
  F_l_sheet_text : Fun K "_law_sheet_text" "_law_sheet_text" s_l_sheet_text p.f_sheet_text p.d_sheet_text
  b_l_sheet_text : Binds K p.d_sheet_text P_l_sheet_text []

/-- a text of a row, of a column, with the sign of a fixed one -/
def rowT (n : Nat) (fr : Bool) : List Nat := (if fr = true then [36] else []) ++ TL.numL n
def colT (m : Nat) (fc : Bool) : List Nat := (if fc = true then [36] else []) ++ letsF 3 m
def shT : Option (List Nat) → List Nat
  | none => []
  | some l => l ++ [33]
theorem adr_text (n m : Nat) (fr fc : Bool) (sh : Option (List Nat)) : shT sh ++ (colT m fc ++ rowT n fr) = adrText n m fr fc sh := by
  unfold adrText colT rowT
  cases sh with
  | none => simp [shT]
  | some l => simp [shT]
def spRowT : Sp := fun vs H Q _ => ∃ (n : Nat) (fr : Bool), vs = [.int n, .bl fr] ∧ n ≤ 1000000 ∧ ∀ H', Same H H' → Q (.str (S (rowT n fr))) H'
def spColT : Sp := fun vs H Q _ => ∃ (m : Nat) (fc : Bool), vs = [.int m, .bl fc] ∧ 1 ≤ m ∧ m ≤ 18278 ∧ ∀ H', Same H H' → Q (.str (S (colT m fc))) H'
def spShT : Sp := fun vs H Q _ => ∃ sh : Option (List Nat), vs = [shV sh] ∧ shOk sh ∧ ∀ H', Same H H' → Q (.str (S (shT sh))) H'
/-- a place: row, column, their signs, the sheet -/
def plc (n m : Int) (fr fc : Bool) (sh : Option (List Nat)) : List V := [.int n, .int m, .bl fr, .bl fc, shV sh]
theorem len36 (b : Bool) : (if b = true then [36] else ([] : List Nat)).length ≤ 1 := by cases b <;> decide
section
variable {P : Program} {w : World} {K : PySem.W.Frag} {mg : Str → Option Value} {base : Heap} {ph : AdL} {p : AdN}
theorem ok_row_text (T : TxtN K mg p) : FnOk P w K mg base CX0 1 p.f_row_text p.d_row_text P_l_row_text spRowT := by
  refine T.F_l_row_text.ok sc_l_row_text (fun vs H Q E h => ?_) (fun cdv A outer s H vs Q E hr h => ?_)
  · obtain ⟨n, fr, rfl, _⟩ := h
    rfl
  · obtain ⟨n, fr, rfl, h1, k⟩ := h
    refine ⟨_, (pss_one (ps_ret (pe_op op_add_str (pe_ifExp (pt_val (pv 1)) pe_str pe_str) (pe_callTy (T := "str") call_str_int (by rfl) T.n_str (by decide +kernel) (pa_cons (pv 0) pa_nil))))), ?_⟩
    have h4 : (TL.numL n).length ≤ 7 := TL.numL_len (by decide) (by omega)
    have hlog : (((n : Nat) : Int).natAbs).log2 < 1920 := by
      show n.log2 < 1920
      by_cases z : n = 0
      · subst z
        decide
      · exact (Nat.log2_lt z).2 (Nat.lt_of_le_of_lt h1 (by decide))
    have l6 := len36 fr
    refine ev_addS (l := if fr = true then [36] else []) (m := TL.numL n) (Evl.ev_if (b := fr) (et_B (ev_var rfl)) (fun hb => by rw [hb]; exact ev_c) (fun hb => by rw [hb]; exact ev_c)) (fun H1 e Q q => ⟨_, rfl, n, rfl, hlog, by
      show Q (.str (Str.ofString (toString ((n : Nat) : Int)))) H1
      rw [TX.num_S]
      exact q H1 (Ex.refl H1)⟩) (by omega) H (Ex.refl H) _ fun H1 e1 => k H1 e1
theorem ok_column_text (TH : TxtH K mg ph) (T : TxtN K mg p) : FnOk P w K mg base CX0 3 p.f_column_text p.d_column_text P_l_column_text spColT := by
  have G_l_letters : FnOk P w K mg base CX0 2 ph.f_letters ph.d_letters P_l_letters spLetters := ok_l_letters TH
  refine T.F_l_column_text.ok sc_l_column_text (fun vs H Q E h => ?_) (fun cdv A outer s H vs Q E hr h => ?_)
  · obtain ⟨m, fc, rfl, _⟩ := h
    rfl
  · obtain ⟨m, fc, rfl, h1, h2, k⟩ := h
    refine ⟨_, (pss_one (ps_ret (pe_op op_add_str (pe_ifExp (pt_val (pv 1)) pe_str pe_str) (pe_call G_l_letters (hr.mono (by decide)) (by rfl) TH.mg_l_letters TH.F_l_letters.kp TH.b_l_letters .nil pass0 (pa_cons (pv 0) pa_nil))))), ?_⟩
    have l6 := len36 fc
    have l3 := lets_len 3 m
    refine ev_addS (l := if fc = true then [36] else []) (m := letsF 3 m) (Evl.ev_if (b := fc) (et_B (ev_var rfl)) (fun hb => by rw [hb]; exact ev_c) (fun hb => by rw [hb]; exact ev_c)) (fun H1 e Q q => ⟨_, rfl, m, rfl, h1, h2, fun H' s => q H' s⟩) (by omega) H (Ex.refl H) _ fun H1 e1 => k H1 e1
theorem ok_sheet_text (T : TxtN K mg p) : FnOk P w K mg base CX0 1 p.f_sheet_text p.d_sheet_text P_l_sheet_text spShT := by
  refine T.F_l_sheet_text.ok sc_l_sheet_text (fun vs H Q E h => ?_) (fun cdv A outer s H vs Q E hr h => ?_)
  · obtain ⟨sh, rfl, _⟩ := h
    rfl
  · obtain ⟨sh, rfl, h1, k⟩ := h
    refine ⟨_, (pss_one (ps_ret (pe_ifExp (pt_cmpR op_isN1 (pv 0) pe_non (nomark _)) pe_str (pe_op op_add_str (pv 0) pe_str)))), ?_⟩
    have en : ∀ {σ : L2.St} {H : Hp} {te : TE} {v : V}, Ev te σ H v → Ev (tOp rIsN te (tC .non)) σ H (.bl (decide (v = .non))) := fun h => ev_op h ev_c fun H1 _ Q q => ⟨rfl, q H1 (Ex.refl H1)⟩
    cases sh with
    | none => exact Evl.ev_if (v := .str (S [])) (b := true) (et_is (et_test (en (ev_var (v := .non) rfl))) rfl) (fun _ => ev_c) (fun z => nomatch z) H (Ex.refl H) _ fun H1 e1 => k H1 e1
    | some l => exact Evl.ev_if (v := .str (S (l ++ [33]))) (b := false) (et_is (et_test (en (ev_var (v := .str (S l)) rfl))) rfl) (fun z => nomatch z) (fun _ => ev_addS (l := l) (m := [33]) (ev_var rfl) ev_c (by have := h1.2; show l.length + 1 ≤ 100000; omega)) H (Ex.refl H) _ fun H1 e1 => k H1 e1
end
end K18

set_option Elab.async false
set_option linter.all false
set_option maxRecDepth 100000
set_option maxHeartbeats 4000000
namespace TX
open PySem PySem.Spec PyProof.Rows L2 Evl
abbrev D10 : Str := Str.ofString "0123456789"
theorem inD_of : ∀ c, c < 128 → decide (c ∈ D10.cps.toList) = dig1 c := by decide +kernel
section
variable {σ : L2.St} {H : Hp} {ta tb : TE} {c : Nat}
theorem ev_inD (ha : Ev ta σ H (sg c)) (hb : Ev tb σ H (.str D10)) (hc : c < 128) : Ev (tOp rInS ta tb) σ H (.bl (dig1 c)) := fun H1 e Q q =>
  ha H1 e _ fun H2 e2 => hb H2 (e.trans e2) _ fun H3 e3 => ⟨c, D10, rfl, rfl, by
    rw [inD_of c hc]
    exact q H3 (e2.trans e3)⟩
end
end TX
namespace K18
open PySem PySem.Spec PyProof.Rows L2 Pen EV2 Evl TX LamX
abbrev s_l_is_digits : Stmt := topS 54
abbrev N_l_is_digits : List Str := ["_law_text", "_law_sign"]
abbrev P_l_is_digits : List Str := ["_law_text"]
theorem sc_l_is_digits : FnScope N_l_is_digits P_l_is_digits (defScope s_l_is_digits) := ⟨rfl, rfl, rfl, by decide +kernel, rfl, by decide +kernel, by decide +kernel⟩
abbrev s_l_is_sheet : Stmt := topS 56
abbrev N_l_is_sheet : List Str := ["_law_text", "_law_sign"]
abbrev P_l_is_sheet : List Str := ["_law_text"]
theorem sc_l_is_sheet : FnScope N_l_is_sheet P_l_is_sheet (defScope s_l_is_sheet) := ⟨rfl, rfl, rfl, by decide +kernel, rfl, by decide +kernel, by decide +kernel⟩
structure AdN2 where
  f_is_digits : Addr
  d_is_digits : FuncData
  f_is_sheet : Addr
  d_is_sheet : FuncData
structure TxtN2 (K : PySem.W.Frag) (mg : Str → Option Value) (p : AdN2) : Prop where
  mg_l_is_digits : mg "_law_is_digits" = some (.ref p.f_is_digits)
  F_l_is_digits : Fun K "_law_is_digits" "_law_is_digits" s_l_is_digits p.f_is_digits p.d_is_digits
  b_l_is_digits : Binds K p.d_is_digits P_l_is_digits []
  mg_l_is_sheet : mg "_law_is_sheet" = some (.ref p.f_is_sheet)
  F_l_is_sheet : Fun K "_law_is_sheet" "_law_is_sheet" s_l_is_sheet p.f_is_sheet p.d_is_sheet
  b_l_is_sheet : Binds K p.d_is_sheet P_l_is_sheet []
section
variable {P : Program} {w : World} {K : PySem.W.Frag} {mg : Str → Option Value} {base : Heap} {ph : AdL} {p : AdN2}
theorem ok_l_is_digits (TH : TxtH K mg ph) (T : TxtN2 K mg p) : FnOk P w K mg base CX0 1 p.f_is_digits p.d_is_digits P_l_is_digits (spAlpha fun l => l.all dig1) := by
  refine T.F_l_is_digits.ok sc_l_is_digits (fun vs H Q E h => ?_) (fun cdv A outer s H vs Q E hr h => ?_)
  · obtain ⟨l, rfl, _⟩ := h
    rfl
  · obtain ⟨l, rfl, ha, hl, k⟩ := h
    refine ⟨_, (pss_one (ps_ret (pe_cmpR op_notIn_seq pe_bl (pe_lc (own := [("_law_sign", 1)]) (g := gName 1) (tt := tYes) (te := tOp rInS (tVar 1) (tC (.str (Str.ofString "0123456789")))) rfl sc_l_is_digits.nd (pi_list (pe_callTy (T := "list") (call_listS rfl) (by rfl) TH.n_list (by decide +kernel) (pa_cons (pv 0) pa_nil))) (blkOk_by (own := [("_law_sign", 1)]) (N := N_l_is_digits) (sc := defScope s_l_is_digits) (by decide +kernel)) (fun _ _ _ _ _ => pg_name (i := 1) sc_l_is_digits.nd rfl (Or.inl rfl)) (fun _ _ _ _ _ => pts_nil) (fun _ _ _ _ _ => (pe_cmpR (r := rInS) op_inS (pv 1) pe_str rfl))) rfl))), ?_⟩
    have el : EvL (tLc (iList K (tCB rLstS (tCons (tVar 0) tNil))) (gName 1) tYes (tOp rInS (tVar 1) (tC (.str (Str.ofString "0123456789")))) [1]) [some (.str (S l)), none] H (l.map fun c => V.bl (dig1 c)) := by
      refine el_eq (el_lcNL (K := K) (xs := l.map sg) (fun _ => true) (fun i => (l[i]?.map fun c => V.bl (dig1 c)).getD .non) (el_listS (ev_var rfl) (by omega)) (by rw [List.length_map]; omega) (fun _ => rfl) (fun _ _ _ _ _ => et_yes) fun i x H1 e1 hx _ => ?_) (by rw [List.length_map, given_map])
      rw [List.getElem?_map] at hx
      cases q : l[i]? with
      | none => rw [q] at hx; cases hx
      | some c =>
        rw [q] at hx
        have e2 : sg c = x := Option.some.inj hx
        subst e2
        have hc := ha c (List.mem_of_getElem? q)
        exact ev_inD (ev_var (i := 1) rfl) ev_c hc
    refine (ev_opL (ev_c (v := .bl false)) el fun p1 H1 h1 _ => rv_niL (K := K) (sq_of h1) rfl (flat_bls dig1 l)) H (Ex.refl H) _ fun H' e => ?_
    rw [inV_false]
    exact k H' e
theorem ok_l_is_sheet (TH : TxtH K mg ph) (T : TxtN2 K mg p) : FnOk P w K mg base CX0 3 p.f_is_sheet p.d_is_sheet P_l_is_sheet (spAlpha sheetOk) := by
  have G_l_is_letters : FnOk P w K mg base CX0 2 ph.f_is_letters ph.d_is_letters P_l_is_letters (spAlpha fun l => l.all let1) := ok_l_is_letters TH
  have G_l_is_digits : FnOk P w K mg base CX0 1 p.f_is_digits p.d_is_digits P_l_is_digits (spAlpha fun l => l.all dig1) := ok_l_is_digits TH T
  refine T.F_l_is_sheet.ok sc_l_is_sheet (fun vs H Q E h => ?_) (fun cdv A outer s H vs Q E hr h => ?_)
  · obtain ⟨l, rfl, _⟩ := h
    rfl
  · obtain ⟨l, rfl, ha, hl, k⟩ := h
    refine ⟨_, (pss_cons (ps_if (PW.pt (pw_or (pt_not (pt_chain op_le op_le pe_int (pe_callB (id := "len") call_len (by rfl) TH.n_len (by decide +kernel) (pa_cons (pv 0) pa_nil)) pe_int)) (pw_or1 (pt_not (pt_val (pe_call G_l_is_letters (hr.mono (by decide)) (by rfl) TH.mg_l_is_letters TH.F_l_is_letters.kp TH.b_l_is_letters .nil pass0 (pa_cons (pe_ix ix_str (pv 0) pe_int (fun _ _ => rfl)) pa_nil))))))) (pss_one (ps_ret pe_bl)) pss_nil)
      (pss_one (ps_ret (pe_cmpR op_notIn_seq pe_bl (pe_lc (own := [("_law_sign", 1)]) (g := gName 1) (tt := tYes) (te := tOrV (tCall (spAlpha fun l => l.all let1) [] E0 (tCons (tVar 1) tNil)) (tCall (spAlpha fun l => l.all dig1) [] E0 (tCons (tVar 1) tNil))) rfl sc_l_is_sheet.nd (pi_list (pe_callTy (T := "list") (call_listS rfl) (by rfl) TH.n_list (by decide +kernel) (pa_cons (pv 0) pa_nil))) (blkOk_by (own := [("_law_sign", 1)]) (N := N_l_is_sheet) (sc := defScope s_l_is_sheet) (by decide +kernel)) (fun _ _ _ _ _ => pg_name (i := 1) sc_l_is_sheet.nd rfl (Or.inl rfl)) (fun _ _ _ _ _ => pts_nil) (fun _ _ _ _ _ => (pe_or (pe_call G_l_is_letters (hr.mono (by decide)) (by rfl) TH.mg_l_is_letters TH.F_l_is_letters.kp TH.b_l_is_letters .nil pass0 (pa_cons (pv 1) pa_nil)) (pe_one (pe_call G_l_is_digits (hr.mono (by decide)) (by rfl) T.mg_l_is_digits T.F_l_is_digits.kp T.b_l_is_digits .nil pass0 (pa_cons (pv 1) pa_nil)))))) rfl)))), ?_⟩
    have eA : ∀ {f : List Nat → Bool} {te : TE} {σ : L2.St} {H : Hp} {m : List Nat}, Ev te σ H (.str (S m)) → (∀ c ∈ m, c < 128) → m.length ≤ 1000 → Ev (tCall (spAlpha f) [] E0 (tCons te tNil)) σ H (.bl (f m)) := fun h ha hl H1 e Q q => h H1 e _ fun H2 e2 => ⟨_, rfl, ha, hl, fun H' s => q H' (e2.trans s)⟩
    refine q_when (b := !decide (1 ≤ l.length ∧ l.length ≤ 12) || !(l.head?.map let1).getD false) (et_or (et_is (et_not (et_test (ev_between (lo := 1) (hi := 12) ev_c (ev_lenS (K := K) (ev_var rfl) (by omega)) ev_c))) (by congr 1; exact decide_eq_decide.mpr (by omega))) fun hb => et_not (et_B ?_)) (fun hb H1 e1 => ?_) (fun hb H1 e1 => ?_)
    · cases l with
      | nil => exact absurd hb (by decide)
      | cons c l =>
        have hc := ha c (List.mem_cons_self ..)
        have e0 : Ev (tOp rIxS (tVar 0) (tC (.int 0))) [some (.str (S (c :: l))), none] H (.str (S [c])) := ev_at (l := c :: l) (i := 0) (ev_var rfl) ev_c rfl (by omega)
        have g := eA (f := fun l => l.all let1) e0 (fun x hx => by rw [List.mem_singleton.mp hx]; exact hc) (by show 1 ≤ 1000; decide)
        have z : [c].all let1 = ((c :: l).head?.map let1).getD false := by simp
        rw [← z]
        exact g
    · have z : sheetOk l = false := by
        unfold sheetOk
        cases h1 : decide (1 ≤ l.length) with
        | false => rfl
        | true =>
          cases h2 : decide (l.length ≤ 12) with
          | false => rfl
          | true =>
            rw [decide_eq_true ⟨of_decide_eq_true h1, of_decide_eq_true h2⟩] at hb
            have hb : (!(l.head?.map let1).getD false) = true := by simpa using hb
            have hb2 : (l.head?.map let1).getD false = false := by simpa using hb
            rw [hb2]
            simp
      have g := k H1 e1
      rw [z] at g
      exact g
    · have el : EvL (tLc (iList K (tCB rLstS (tCons (tVar 0) tNil))) (gName 1) tYes (tOrV (tCall (spAlpha fun l => l.all let1) [] E0 (tCons (tVar 1) tNil)) (tCall (spAlpha fun l => l.all dig1) [] E0 (tCons (tVar 1) tNil))) [1]) [some (.str (S l)), none] H1 (l.map fun c => V.bl (aln1 c)) := by
        refine el_eq (el_lcNL (K := K) (xs := l.map sg) (fun _ => true) (fun i => (l[i]?.map fun c => V.bl (aln1 c)).getD .non) (el_listS (ev_var rfl) (by omega)) (by rw [List.length_map]; omega) (fun _ => rfl) (fun _ _ _ _ _ => et_yes) fun i x H2 e2 hx _ => ?_) (by rw [List.length_map, given_map])
        rw [List.getElem?_map] at hx
        cases q : l[i]? with
        | none => rw [q] at hx; cases hx
        | some c =>
          rw [q] at hx
          have e3 : sg c = x := Option.some.inj hx
          subst e3
          have hc := ha c (List.mem_of_getElem? q)
          have as : ∀ x ∈ [c], x < 128 := fun x hx => by rw [List.mem_singleton.mp hx]; exact hc
          have g := ev_orV (eA (f := fun l => l.all let1) (m := [c]) (σ := [some (.str (S l)), some (sg c)]) (H := H2) (ev_var (i := 1) rfl) as (by show 1 ≤ 1000; decide)) (fun _ => eA (f := fun l => l.all dig1) (m := [c]) (ev_var (i := 1) rfl) as (by show 1 ≤ 1000; decide))
          have z : ([c].all let1 || [c].all dig1) = aln1 c := by simp [aln1]
          have z2 : ((some c).map fun c => V.bl (aln1 c)).getD .non = V.bl ([c].all let1 || [c].all dig1) := by rw [z]; rfl
          show Ev _ _ _ (((some c).map fun c => V.bl (aln1 c)).getD .non)
          rw [z2]
          exact g
      refine (ev_opL (ev_c (v := .bl false)) el fun p1 H2 h1 _ => rv_niL (K := K) (sq_of h1) rfl (flat_bls aln1 l)) H1 (Ex.refl H1) _ fun H' e => ?_
      rw [inV_false]
      have g := k H' (e1.trans e)
      have z : sheetOk l = l.all aln1 := by
        simp only [Bool.or_eq_false_iff, Bool.not_eq_false', decide_eq_true_eq] at hb
        unfold sheetOk
        rw [decide_eq_true hb.1.1, decide_eq_true hb.1.2, hb.2]
        simp
      rw [z] at g
      exact g
end
end K18

set_option Elab.async false
set_option linter.all false
set_option maxRecDepth 100000
set_option maxHeartbeats 4000000
namespace K18
open PySem PySem.Spec PyProof.Rows L2 Pen EV2 Evl TX LamX
theorem strip_mem {l : List Nat} {c : Nat} (h : c ∈ l) (n : c ≠ 36) : c ∈ (if l.head? = some 36 then l.tail else l) := by
  by_cases z : l.head? = some 36
  · rw [if_pos z]
    cases l with
    | nil => cases h
    | cons a l =>
      rcases List.mem_cons.mp h with q | q
      · exact absurd (q.trans (Option.some.inj z)) n
      · exact q
  · rw [if_neg z]
    exact h
/-- a cell's text has no '!' -/
theorem cell_bang {b : List Nat} {sh : Option (List Nat)} (h : 33 ∈ b) : parseC b sh = none := by
  unfold parseC
  refine if_neg fun ⟨hx, hy⟩ => ?_
  have h1 := strip_mem h (by decide)
  have e := List.takeWhile_append_dropWhile (p := let1) (l := if b.head? = some 36 then b.tail else b)
  rw [← e] at h1
  rcases List.mem_append.mp h1 with q | q
  · have hall : ((cellParts b).1).all let1 = true := by
      unfold colText at hx
      simp only [Bool.and_eq_true] at hx
      exact hx.2
    have z := List.all_eq_true.mp hall 33 q
    exact absurd z (by decide)
  · have h2 := strip_mem q (by decide)
    have hall : ((cellParts b).2.2.1).all dig1 = true := by
      unfold rowText at hy
      simp only [Bool.and_eq_true] at hy
      exact hy.1.1.2
    have z := List.all_eq_true.mp hall 33 h2
    exact absurd z (by decide)
theorem sheet_bang {a : List Nat} (h : 33 ∈ a) : sheetOk a = false := by
  cases q : sheetOk a with
  | false => rfl
  | true =>
    unfold sheetOk at q
    simp only [Bool.and_eq_true] at q
    exact absurd (List.all_eq_true.mp q.1.2 33 h) (by decide)
/-- read from the first '!' on -/
def parseF (l : List Nat) : Option (Int × Int × Bool × Bool × Option (List Nat)) := match firstBang l with
  | none => parseC l none
  | some (a, b) => if sheetOk a = true then parseC b (some a) else none
theorem bang_eq : ∀ {l a b : List Nat}, l = a ++ 33 :: b → 33 ∉ b → lastBang l = some (a, b) := fun {l a b} e n => by
  cases q : lastBang l with
  | none => exact absurd (by rw [e]; simp) (bang_none q)
  | some p =>
    obtain ⟨a2, b2⟩ := p
    obtain ⟨e2, n2⟩ := bang_some q
    have r1 := congrArg List.reverse (e.symm.trans e2)
    rw [List.reverse_append, List.reverse_append, List.reverse_cons, List.reverse_cons, List.append_assoc, List.append_assoc] at r1
    have key : ∀ (u v s t : List Nat), 33 ∉ u → 33 ∉ v → u ++ ([33] ++ s) = v ++ ([33] ++ t) → u = v ∧ s = t := by
      intro u
      induction u with
      | nil =>
        intro v s t _ hv h
        cases v with
        | nil => exact ⟨rfl, by simpa using h⟩
        | cons x v =>
          have h2 : 33 :: s = x :: (v ++ ([33] ++ t)) := h
          exact absurd (List.mem_cons.mpr (.inl (List.cons.inj h2).1)) hv
      | cons y u ih =>
        intro v s t hu hv h
        cases v with
        | nil =>
          have h2 : y :: (u ++ ([33] ++ s)) = 33 :: t := h
          exact absurd (List.mem_cons.mpr (.inl (List.cons.inj h2).1.symm)) hu
        | cons x v =>
          have h2 : y :: (u ++ ([33] ++ s)) = x :: (v ++ ([33] ++ t)) := h
          obtain ⟨h3, h4⟩ := List.cons.inj h2
          obtain ⟨h5, h6⟩ := ih v s t (fun z => hu (List.mem_cons_of_mem _ z)) (fun z => hv (List.mem_cons_of_mem _ z)) h4
          exact ⟨by rw [h3, h5], h6⟩
    obtain ⟨k1, k2⟩ := key b.reverse b2.reverse a.reverse a2.reverse (fun z => n (List.mem_reverse.mp z)) (fun z => n2 (List.mem_reverse.mp z)) r1
    rw [List.reverse_inj.mp k1, List.reverse_inj.mp k2]
theorem parse_same (l : List Nat) : parseF l = parseA l := by
  unfold parseF
  cases q : firstBang l with
  | none =>
    have n := fbang_none q
    unfold parseA
    cases q2 : lastBang l with
    | none => rfl
    | some p =>
      obtain ⟨a, b⟩ := p
      exact absurd (by rw [(bang_some q2).1]; simp) n
  | some p =>
    obtain ⟨a, b⟩ := p
    obtain ⟨e, n⟩ := fbang_some q
    by_cases hb : 33 ∈ b
    · have z1 : (if sheetOk a = true then parseC b (some a) else none) = none := by
        rw [cell_bang hb]
        exact ite_self none
      show (if sheetOk a = true then parseC b (some a) else none) = _
      rw [z1]
      unfold parseA
      cases q2 : lastBang l with
      | none => exact absurd (by rw [e]; simp) (bang_none q2)
      | some p =>
        obtain ⟨a2, b2⟩ := p
        obtain ⟨e2, n2⟩ := bang_some q2
        have h33 : 33 ∈ a2 := by
          apply Classical.byContradiction
          intro h
          -- with no '!' in a2 the first is the last
          have e3 := e.symm.trans e2
          have key : ∀ (u v s t : List Nat), 33 ∉ u → 33 ∉ v → u ++ 33 :: s = v ++ 33 :: t → s = t := by
            intro u
            induction u with
            | nil =>
              intro v s t _ hv h
              cases v with
              | nil => exact (List.cons.inj h).2
              | cons x v => exact absurd (List.mem_cons.mpr (.inl (List.cons.inj h).1)) hv
            | cons y u ih =>
              intro v s t hu hv h
              cases v with
              | nil => exact absurd (List.mem_cons.mpr (.inl (List.cons.inj h).1.symm)) hu
              | cons x v => exact ih v s t (fun z => hu (List.mem_cons_of_mem _ z)) (fun z => hv (List.mem_cons_of_mem _ z)) (List.cons.inj h).2
          have hh := key a a2 b b2 n h e3
          exact n2 (hh ▸ hb)
        show none = (if sheetOk a2 = true then parseC b2 (some a2) else none)
        rw [sheet_bang h33]
        rfl
    · unfold parseA
      rw [bang_eq e hb]
end K18

set_option Elab.async false
set_option linter.all false
set_option maxRecDepth 100000
set_option maxHeartbeats 4000000
namespace TX
open PySem PySem.Spec PyProof.Rows L2 Evl
/-- a text without a '$' ahead -/
def strip36 (l : List Nat) : List Nat := if l.head? = some 36 then l.tail else l
theorem strip36_sub (l : List Nat) : (strip36 l).Sublist l := by
  unfold strip36
  by_cases z : l.head? = some 36
  · rw [if_pos z]
    exact List.tail_sublist l
  · rw [if_neg z]
    exact List.Sublist.refl l
theorem cut1 (l : List Nat) : cutS (S l) none (some 1) = S (l.take 1) := by
  cases l with
  | nil => decide +kernel
  | cons c l => exact sl_to (n := 1) (c :: l) (by simp)
theorem cut1r (l : List Nat) : cutS (S l) (some 1) none = S (l.drop 1) := by
  cases l with
  | nil => decide +kernel
  | cons c l => exact sl_from (n := 1) (c :: l) (by simp)
theorem take1 (l : List Nat) : decide (V.str (S (l.take 1)) = V.str (Str.ofString "$")) = decide (l.head? = some 36) := decide_eq_decide.mpr ⟨fun q => by
    have q3 : l.take 1 = [36] := S_inj (V.str.inj q)
    cases l with
    | nil => cases q3
    | cons c l =>
      have q4 : [c] = [36] := q3
      rw [(List.cons.inj q4).1]
      rfl, fun q => by
    cases l with
    | nil => cases q
    | cons c l =>
      have q2 : c = 36 := Option.some.inj q
      rw [q2]
      rfl⟩
end TX
namespace K18
open PySem PySem.Spec PyProof.Rows L2 Pen EV2 Evl TX LamX
abbrev s_l_read_row : Stmt := topS 65
abbrev N_l_read_row : List Str := ["_law_text", "_law_digits"]
abbrev P_l_read_row : List Str := ["_law_text"]
theorem sc_l_read_row : FnScope N_l_read_row P_l_read_row (defScope s_l_read_row) := ⟨rfl, rfl, rfl, by decide +kernel, rfl, by decide +kernel, by decide +kernel⟩
abbrev s_l_read_column : Stmt := topS 66
abbrev N_l_read_column : List Str := ["_law_text", "_law_letters_here"]
abbrev P_l_read_column : List Str := ["_law_text"]
theorem sc_l_read_column : FnScope N_l_read_column P_l_read_column (defScope s_l_read_column) := ⟨rfl, rfl, rfl, by decide +kernel, rfl, by decide +kernel, by decide +kernel⟩
abbrev s_l_read_cell : Stmt := topS 67
abbrev N_l_read_cell : List Str := ["_law_text", "_law_sheet", "_law_many", "_law_turn", "_law_column_here", "_law_row"]
abbrev P_l_read_cell : List Str := ["_law_text", "_law_sheet"]
theorem sc_l_read_cell : FnScope N_l_read_cell P_l_read_cell (defScope s_l_read_cell) := ⟨rfl, rfl, rfl, by decide +kernel, rfl, by decide +kernel, by decide +kernel⟩
structure AdN3 where
  f_read_row : Addr
  d_read_row : FuncData
  f_read_column : Addr
  d_read_column : FuncData
  f_read_cell : Addr
  d_read_cell : FuncData
structure TxtN3 (K : PySem.W.Frag) (mg : Str → Option Value) (p : AdN3) : Prop where
  mg_l_read_row : mg "_law_read_row" = some (.ref p.f_read_row)
  F_l_read_row : Fun K "_law_read_row" "_law_read_row" s_l_read_row p.f_read_row p.d_read_row
  b_l_read_row : Binds K p.d_read_row P_l_read_row []
  mg_l_read_column : mg "_law_read_column" = some (.ref p.f_read_column)
  F_l_read_column : Fun K "_law_read_column" "_law_read_column" s_l_read_column p.f_read_column p.d_read_column
  b_l_read_column : Binds K p.d_read_column P_l_read_column []
  mg_l_read_cell : mg "_law_read_cell" = some (.ref p.f_read_cell)
  F_l_read_cell : Fun K "_law_read_cell" "_law_read_cell" s_l_read_cell p.f_read_cell p.d_read_cell
  b_l_read_cell : Binds K p.d_read_cell P_l_read_cell []
def spReadC : Sp := fun vs H Q _ => ∃ l : List Nat, vs = [.str (S l)] ∧ (∀ c ∈ l, c < 128) ∧ l.length ≤ 1000 ∧ (colText (strip36 l) = false → ∀ H', Same H H' → Q .non H') ∧
  (colText (strip36 l) = true → ∀ t H', H t = none → Same H H' → H' t = some (.tup [.int (val ((strip36 l).map up)), .bl (decide (l.head? = some 36))]) → Q (.ref t) H')
section
variable {P : Program} {w : World} {K : PySem.W.Frag} {mg : Str → Option Value} {base : Heap} {ph : AdL} {p2 : AdN2} {p : AdN3}
theorem ok_l_read_column (TH : TxtH K mg ph) (T : TxtN3 K mg p) : FnOk P w K mg base CX0 3 p.f_read_column p.d_read_column P_l_read_column spReadC := by
  have G_l_is_letters : FnOk P w K mg base CX0 2 ph.f_is_letters ph.d_is_letters P_l_is_letters (spAlpha fun l => l.all let1) := ok_l_is_letters TH
  have G_l_column : FnOk P w K mg base CX0 2 ph.f_column ph.d_column P_l_column spColumn := ok_l_column TH
  refine T.F_l_read_column.ok sc_l_read_column (fun vs H Q E h => ?_) (fun cdv A outer s H vs Q E hr h => ?_)
  · obtain ⟨l, rfl, _⟩ := h
    rfl
  · obtain ⟨l, rfl, ha, hl, h0, h1⟩ := h
    refine ⟨_, (pss_cons (ps_set (i := 1) sc_l_read_column.nd rfl (Or.inl rfl) (pe_ifExp (pt_cmpR op_eq (pe_slice sl_str (pv 0) po_none (po_some pe_int)) pe_str (nomark _)) (pe_slice sl_str (pv 0) (po_some pe_int) po_none) (pv 0)))
      (pss_cons (ps_if (PW.pt (pw_or (pt_not (pt_chain op_le op_le pe_int (pe_callB (id := "len") call_len (by rfl) TH.n_len (by decide +kernel) (pa_cons (pv 1) pa_nil)) pe_int)) (pw_or1 (pt_not (pt_val (pe_call G_l_is_letters (hr.mono (by decide)) (by rfl) TH.mg_l_is_letters TH.F_l_is_letters.kp TH.b_l_is_letters .nil pass0 (pa_cons (pv 1) pa_nil))))))) (pss_one (ps_ret pe_non)) pss_nil)
      (pss_one (ps_ret (pe_tup (pa_cons (pe_call G_l_column (hr.mono (by decide)) (by rfl) TH.mg_l_column TH.F_l_column.kp TH.b_l_column .nil pass0 (pa_cons (pv 1) pa_nil)) (pa_cons (pe_cmpR op_eq (pe_slice sl_str (pv 0) po_none (po_some pe_int)) pe_str (nomark _)) pa_nil))))))), ?_⟩
    have eD : ∀ {x : Option V} {H : Hp}, Ev (tOp rEq (tSl rSlS (tVar 0) tNoPart (tPart (tC (.int 1)))) (tC (.str (Str.ofString "$")))) [some (.str (S l)), x] H (.bl (decide (l.head? = some 36))) := fun {x H} => by
      have g := ev_op (ev_slS (σ := [some (.str (S l)), x]) (H := H) (z := S l) (ev_var (i := 0) rfl) eo_none (eo_some (ev_c (v := .int 1))) (by rw [len_S]; omega)) (ev_c (v := .str (Str.ofString "$"))) (rv_eq rfl)
      rw [cut1, take1] at g
      exact g
    have eA : ∀ {σ : L2.St} {H : Hp} {te : TE} {m : List Nat}, Ev te σ H (.str (S m)) → (∀ c ∈ m, c < 128) → m.length ≤ 1000 → Ev (tCall (spAlpha fun l => l.all let1) [] E0 (tCons te tNil)) σ H (.bl (m.all let1)) := fun h ha hl H1 e Q q => h H1 e _ fun H2 e2 => ⟨_, rfl, ha, hl, fun H' s => q H' (e2.trans s)⟩
    refine q_asg (v := .str (S (strip36 l))) (Evl.ev_if (b := decide (l.head? = some 36)) (et_test eD) (fun hb => ?_) (fun hb => ?_)) fun H1 e1 => ?_
    · have g := ev_slS (σ := [some (.str (S l)), none]) (H := H) (z := S l) (ev_var (i := 0) rfl) (eo_some (ev_c (v := .int 1))) eo_none (by rw [len_S]; omega)
      rw [cut1r] at g
      unfold strip36
      rw [if_pos (of_decide_eq_true hb), ← List.drop_one]
      exact g
    · unfold strip36
      rw [if_neg (of_decide_eq_false hb)]
      exact ev_var rfl
    have sb := strip36_sub l
    have ya : ∀ c ∈ strip36 l, c < 128 := fun c hc => ha c (sb.subset hc)
    have yl : (strip36 l).length ≤ 1000 := Nat.le_trans sb.length_le hl
    generalize strip36 l = y at *
    have z : colText y = (decide (1 ≤ y.length ∧ y.length ≤ 3) && y.all let1) := by
      unfold colText
      rw [Bool.decide_and]
    refine q_when (b := !colText y) (et_is (et_or (et_not (et_test (ev_between (lo := 1) (hi := 3) ev_c (ev_lenS (K := K) (l := y) (ev_var rfl) (by omega)) ev_c))) fun _ => et_not (et_B (eA (ev_var rfl) ya yl))) ?_) (fun hb H2 e2 => ?_) (fun hb H2 e2 => ?_)
    · rw [z, Bool.not_and]
      congr 2
      exact decide_eq_decide.mpr (by omega)
    · exact h0 (by simpa using hb) H2 (e1.trans e2)
    · have hb : colText y = true := by simpa using hb
      have hall : y.all let1 = true := by
        rw [hb] at z
        have z2 := z.symm
        simp only [Bool.and_eq_true] at z2
        exact z2.2
      refine (eu_tup (ea_cons (fun H3 e3 Q q => ⟨_, rfl, y, rfl, ya, yl, hall, fun H' s => q H' s⟩) (ea_cons eD ea_nil)) (by show 2 ≤ 100000; decide)) H2 (Ex.refl H2) _ fun t H3 nt e3 ht => ?_
      exact h1 hb t H3 (fresh_back (e1.trans e2) nt) ((e1.trans e2).trans e3) ht
def spReadR : Sp := fun vs H Q _ => ∃ l : List Nat, vs = [.str (S l)] ∧ (∀ c ∈ l, c < 128) ∧ l.length ≤ 1000 ∧ (rowText (strip36 l) = false → ∀ H', Same H H' → Q .non H') ∧
  (rowText (strip36 l) = true → ∀ t H', H t = none → Same H H' → H' t = some (.tup [.int (numVal (strip36 l)), .bl (decide (l.head? = some 36))]) → Q (.ref t) H')
theorem ok_l_read_row (TH : TxtH K mg ph) (T2 : TxtN2 K mg p2) (T : TxtN3 K mg p) : FnOk P w K mg base CX0 3 p.f_read_row p.d_read_row P_l_read_row spReadR := by
  have G_l_is_digits : FnOk P w K mg base CX0 1 p2.f_is_digits p2.d_is_digits P_l_is_digits (spAlpha fun l => l.all dig1) := ok_l_is_digits TH T2
  refine T.F_l_read_row.ok sc_l_read_row (fun vs H Q E h => ?_) (fun cdv A outer s H vs Q E hr h => ?_)
  · obtain ⟨l, rfl, _⟩ := h
    rfl
  · obtain ⟨l, rfl, ha, hl, h0, h1⟩ := h
    refine ⟨_, (pss_cons (ps_set (i := 1) sc_l_read_row.nd rfl (Or.inl rfl) (pe_ifExp (pt_cmpR op_eq (pe_slice sl_str (pv 0) po_none (po_some pe_int)) pe_str (nomark _)) (pe_slice sl_str (pv 0) (po_some pe_int) po_none) (pv 0)))
      (pss_cons (ps_if (PW.pt (pw_or (pt_not (pt_chain op_le op_le pe_int (pe_callB (id := "len") call_len (by rfl) TH.n_len (by decide +kernel) (pa_cons (pv 1) pa_nil)) pe_int)) (pw_or (pt_not (pt_val (pe_call G_l_is_digits (hr.mono (by decide)) (by rfl) T2.mg_l_is_digits T2.F_l_is_digits.kp T2.b_l_is_digits .nil pass0 (pa_cons (pv 1) pa_nil)))) (pw_or (pt_cmpR op_eq (pe_ix ix_str (pv 1) pe_int (fun _ _ => rfl)) pe_str (nomark _)) (pw_or1 (pt_cmpR op_gt (pe_callTy (T := "int") call_int_str (by rfl) TH.n_int (by decide +kernel) (pa_cons (pv 1) pa_nil)) pe_int (nomark _))))))) (pss_one (ps_ret pe_non)) pss_nil)
      (pss_one (ps_ret (pe_tup (pa_cons (pe_callTy (T := "int") call_int_str (by rfl) TH.n_int (by decide +kernel) (pa_cons (pv 1) pa_nil)) (pa_cons (pe_cmpR op_eq (pe_slice sl_str (pv 0) po_none (po_some pe_int)) pe_str (nomark _)) pa_nil))))))), ?_⟩
    have eD : ∀ {x : Option V} {H : Hp}, Ev (tOp rEq (tSl rSlS (tVar 0) tNoPart (tPart (tC (.int 1)))) (tC (.str (Str.ofString "$")))) [some (.str (S l)), x] H (.bl (decide (l.head? = some 36))) := fun {x H} => by
      have g := ev_op (ev_slS (σ := [some (.str (S l)), x]) (H := H) (z := S l) (ev_var (i := 0) rfl) eo_none (eo_some (ev_c (v := .int 1))) (by rw [len_S]; omega)) (ev_c (v := .str (Str.ofString "$"))) (rv_eq rfl)
      rw [cut1, take1] at g
      exact g
    have eA : ∀ {σ : L2.St} {H : Hp} {te : TE} {m : List Nat}, Ev te σ H (.str (S m)) → (∀ c ∈ m, c < 128) → m.length ≤ 1000 → Ev (tCall (spAlpha fun l => l.all dig1) [] E0 (tCons te tNil)) σ H (.bl (m.all dig1)) := fun h ha hl H1 e Q q => h H1 e _ fun H2 e2 => ⟨_, rfl, ha, hl, fun H' s => q H' (e2.trans s)⟩
    refine q_asg (v := .str (S (strip36 l))) (Evl.ev_if (b := decide (l.head? = some 36)) (et_test eD) (fun hb => ?_) (fun hb => ?_)) fun H1 e1 => ?_
    · have g := ev_slS (σ := [some (.str (S l)), none]) (H := H) (z := S l) (ev_var (i := 0) rfl) (eo_some (ev_c (v := .int 1))) eo_none (by rw [len_S]; omega)
      rw [cut1r] at g
      unfold strip36
      rw [if_pos (of_decide_eq_true hb), ← List.drop_one]
      exact g
    · unfold strip36
      rw [if_neg (of_decide_eq_false hb)]
      exact ev_var rfl
    have sb := strip36_sub l
    have ya : ∀ c ∈ strip36 l, c < 128 := fun c hc => ha c (sb.subset hc)
    have yl : (strip36 l).length ≤ 1000 := Nat.le_trans sb.length_le hl
    generalize strip36 l = y at *
    have z : rowText y = (decide (1 ≤ y.length ∧ y.length ≤ 7) && (y.all dig1 && (!decide (y.head? = some 48) && decide (numVal y ≤ 1000000)))) := by
      have z1 : decide (numVal y ≤ 1000000) = decide (NumText.digitsVal y ≤ 1000000) := decide_eq_decide.mpr (by unfold numVal; omega)
      unfold rowText
      rw [Bool.decide_and, z1]
      simp only [Bool.and_assoc]
    have eI : (1 ≤ y.length ∧ y.length ≤ 7) → y.all dig1 = true → ∀ {σ : L2.St} {Ha : Hp}, σ[1]? = some (some (.str (S y))) → Ev (tCB (fun xs H Q => ∃ a n, xs = [V.str a] ∧ PySem.intText? a = some n ∧ a.length ≤ 640 ∧ Q (.int n) H) (tCons (tVar 1) tNil)) σ Ha (.int (numVal y)) := fun hn hd σ Ha hs Hb e Q q => by
      have ne : y ≠ [] := fun e => by
        subst e
        exact absurd hn.1 (by decide)
      have z := PySem.intText_digits (x := S y) (by rw [toList_S]; intro d hd2; exact of_decide_eq_true (List.all_eq_true.mp hd d hd2)) (by rw [toList_S]; exact ne) (by rw [len_S]; omega)
      rw [toList_S] at z
      exact ⟨_, hs, _, _, rfl, z, by rw [len_S]; omega, q Hb (Ex.refl Hb)⟩
    have hn1 : (!decide ((1 : Int) ≤ (y.length : Int) ∧ (y.length : Int) ≤ 7)) = !decide (1 ≤ y.length ∧ y.length ≤ 7) := by
      congr 1
      exact decide_eq_decide.mpr (by omega)
    refine q_when (b := !rowText y) (et_is (et_or (et_is (et_not (et_test (ev_between (lo := 1) (hi := 7) ev_c (ev_lenS (K := K) (l := y) (ev_var rfl) (by omega)) ev_c))) hn1) fun q1 => et_or (et_not (et_B (eA (ev_var rfl) ya yl))) fun q2 => et_or (b := decide (1000000 < numVal y)) (a := decide (y.head? = some 48)) (et_test ?e0) fun _ => et_test (ev_op (eI (by simpa using q1) (by simpa using q2) rfl) ev_c rv_I0)) ?_) (fun hb H2 e2 => ?_) (fun hb H2 e2 => ?_)
    case e0 =>
      have hn : 1 ≤ y.length ∧ y.length ≤ 7 := by simpa using q1
      cases y with
      | nil => exact absurd hn.1 (by decide)
      | cons c y =>
        have e0 : Ev (tOp rIxS (tVar 1) (tC (.int 0))) [some (.str (S l)), some (.str (S (c :: y)))] H1 (.str (S [c])) := ev_at (l := c :: y) (i := 0) (ev_var rfl) ev_c rfl (by omega)
        have g := ev_op e0 (ev_c (v := .str (Str.ofString "0"))) (rv_eq rfl)
        have z3 : decide (V.str (S [c]) = V.str (Str.ofString "0")) = decide ((c :: y).head? = some 48) := decide_eq_decide.mpr ⟨fun q => by
            have q3 : [c] = [48] := S_inj (V.str.inj q)
            rw [(List.cons.inj q3).1]
            rfl, fun q => by
            have q2 : c = 48 := Option.some.inj q
            rw [q2]
            rfl⟩
        rw [z3] at g
        exact g
    · have z5 : decide (1000000 < numVal y) = !decide (numVal y ≤ 1000000) := by
        rw [← decide_not]
        exact decide_eq_decide.mpr (by omega)
      rw [z, z5]
      simp only [Bool.not_and, Bool.not_not]
    · exact h0 (by simpa using hb) H2 (e1.trans e2)
    · have hb : rowText y = true := by simpa using hb
      have hb2 := hb
      rw [z] at hb2
      simp only [Bool.and_eq_true, decide_eq_true_eq] at hb2
      refine (eu_tup (ea_cons (eI hb2.1 hb2.2.1 rfl) (ea_cons eD ea_nil)) (by show 2 ≤ 100000; decide)) H2 (Ex.refl H2) _ fun t H3 nt e3 ht => ?_
      exact h1 hb t H3 (fresh_back (e1.trans e2) nt) ((e1.trans e2).trans e3) ht
end
end K18

set_option Elab.async false
set_option linter.all false
set_option maxRecDepth 100000
set_option maxHeartbeats 4000000
namespace K18
open PySem PySem.Spec PyProof.Rows L2 Pen EV2 Evl TX LamX
def dol (b : List Nat) : Nat := if b.head? = some 36 then 1 else 0
theorem dol_drop (b : List Nat) : b.drop (dol b) = strip36 b := by
  unfold dol strip36
  by_cases z : b.head? = some 36
  · rw [if_pos z, if_pos z, List.drop_one]
  · rw [if_neg z, if_neg z, List.drop_zero]
theorem dol_le (b : List Nat) : dol b + (strip36 b).length = b.length := by
  unfold dol strip36
  by_cases z : b.head? = some 36
  · rw [if_pos z, if_pos z]
    cases b with
    | nil => cases z
    | cons c b => show 1 + b.length = b.length + 1; omega
  · rw [if_neg z, if_neg z]
    omega
/-- so many letters, four at most -/
def many (b : List Nat) : Nat := min 4 ((strip36 b).takeWhile let1).length
theorem take_many (b : List Nat) {k : Nat} (hk : k ≤ ((strip36 b).takeWhile let1).length) : strip36 (b.take (dol b + k)) = (strip36 b).take k ∧ ((b.take (dol b + k)).head? = some 36 ↔ b.head? = some 36) := by
  by_cases z : b.head? = some 36
  · cases b with
    | nil => cases z
    | cons c b =>
      have e : dol (c :: b) = 1 := if_pos z
      have s : strip36 (c :: b) = b := if_pos z
      rw [e, s, Nat.add_comm, List.take_succ_cons]
      exact ⟨if_pos z, Iff.rfl⟩
  · have e : dol b = 0 := if_neg z
    have s : strip36 b = b := if_neg z
    rw [s] at hk
    rw [e, s, Nat.zero_add]
    have hh : ¬ (b.take k).head? = some 36 := by
      cases k with
      | zero => intro q; cases q
      | succ k =>
        cases b with
        | nil => intro q; cases q
        | cons c b =>
          intro q
          exact z q
    exact ⟨if_neg hh, fun q => absurd q hh, fun q => absurd q z⟩
theorem drop_many (b : List Nat) (k : Nat) : b.drop (dol b + k) = (strip36 b).drop k := by rw [← List.drop_drop, dol_drop]
theorem parse_many (b : List Nat) (sh : Option (List Nat)) : parseC b sh = if colText ((strip36 b).take (many b)) = true ∧ rowText (strip36 ((strip36 b).drop (many b))) = true then
    some (numVal (strip36 ((strip36 b).drop (many b))), val (((strip36 b).take (many b)).map up), decide (((strip36 b).drop (many b)).head? = some 36), decide (b.head? = some 36), sh) else none := by
  unfold parseC
  have c1 : (cellParts b).1 = (strip36 b).takeWhile let1 := rfl
  have c2 : (cellParts b).2.2.1 = strip36 ((strip36 b).dropWhile let1) := rfl
  have c3 : (cellParts b).2.2.2 = decide (((strip36 b).dropWhile let1).head? = some 36) := rfl
  have c4 : (cellParts b).2.1 = decide (b.head? = some 36) := rfl
  rw [c1, c2, c3, c4]
  by_cases h : ((strip36 b).takeWhile let1).length ≤ 4
  · have m : many b = ((strip36 b).takeWhile let1).length := by unfold many; omega
    rw [m, tw_take, tw_drop]
  · have m : many b = 4 := by unfold many; omega
    have n1 : ¬ colText ((strip36 b).takeWhile let1) = true := fun q => by
      unfold colText at q
      simp only [Bool.and_eq_true, decide_eq_true_eq] at q
      omega
    have n2 : ¬ colText ((strip36 b).take (many b)) = true := fun q => by
      have hl := tw_le (p := let1) (strip36 b)
      unfold colText at q
      simp only [Bool.and_eq_true, decide_eq_true_eq, List.length_take] at q
      omega
    rw [if_neg fun q => n1 q.1, if_neg fun q => n2 q.1]
def spReadCell : Sp := fun vs H Q _ => ∃ (b : List Nat) (sh : Option (List Nat)), vs = [.str (S b), shV sh] ∧ (∀ c ∈ b, c < 128) ∧ b.length ≤ 1000 ∧ (parseC b sh = none → ∀ H', Same H H' → Q .non H') ∧
  (∀ r c fr fc s, parseC b sh = some (r, c, fr, fc, s) → ∀ t H', H t = none → Same H H' → H' t = some (.tup (plc r c fr fc s)) → Q (.ref t) H')
section
variable {P : Program} {w : World} {K : PySem.W.Frag} {mg : Str → Option Value} {base : Heap} {ph : AdL} {p2 : AdN2} {p : AdN3}
theorem ok_l_read_cell (TH : TxtH K mg ph) (T2 : TxtN2 K mg p2) (T : TxtN3 K mg p) : FnOk P w K mg base CX0 4 p.f_read_cell p.d_read_cell P_l_read_cell spReadCell := by
  have G_l_is_letters : FnOk P w K mg base CX0 2 ph.f_is_letters ph.d_is_letters P_l_is_letters (spAlpha fun l => l.all let1) := ok_l_is_letters TH
  have G_l_read_column : FnOk P w K mg base CX0 3 p.f_read_column p.d_read_column P_l_read_column spReadC := ok_l_read_column TH T
  have G_l_read_row : FnOk P w K mg base CX0 3 p.f_read_row p.d_read_row P_l_read_row spReadR := ok_l_read_row TH T2 T
  refine T.F_l_read_cell.ok sc_l_read_cell (fun vs H Q E h => ?_) (fun cdv A outer s H vs Q E hr h => ?_)
  · obtain ⟨b, sh, rfl, _⟩ := h
    rfl
  · obtain ⟨b, sh, rfl, ha, hl, h0, h1⟩ := h
    refine ⟨_, (pss_cons (ps_set (i := 2) sc_l_read_cell.nd rfl (Or.inl rfl) (pe_ifExp (pt_cmpR op_eq (pe_slice sl_str (pv 0) po_none (po_some pe_int)) pe_str (nomark _)) pe_int pe_int))
      (pss_cons (ps_for PassesOwn.never rfl (pi_range1 (by rfl) TH.n_range (pa_cons pe_int pa_nil)) (pg_name (i := 3) sc_l_read_cell.nd rfl (Or.inl rfl)) (pss_one (ps_if (PW.pt (pw_and (pt_cmpR op_lt (pv 2) (pe_callB (id := "len") call_len (by rfl) TH.n_len (by decide +kernel) (pa_cons (pv 0) pa_nil)) (nomark _)) (pw_and1 (pt_val (pe_call G_l_is_letters (hr.mono (by decide)) (by rfl) TH.mg_l_is_letters TH.F_l_is_letters.kp TH.b_l_is_letters .nil pass0 (pa_cons (pe_ix ix_str (pv 0) (pv 2) (fun _ _ => rfl)) pa_nil)))))) (pss_one (ps_set (i := 2) sc_l_read_cell.nd rfl (Or.inl rfl) (pe_op op_add (pv 2) pe_int))) pss_nil)))
      (pss_cons (ps_par (i := 4) (j := 5) (by rfl) sc_l_read_cell.nd rfl rfl (by decide) rfl rfl (pa_cons (pe_call G_l_read_column (hr.mono (by decide)) (by rfl) T.mg_l_read_column T.F_l_read_column.kp T.b_l_read_column .nil pass0 (pa_cons (pe_slice sl_str (pv 0) po_none (po_some (pv 2))) pa_nil)) (pa_cons (pe_call G_l_read_row (hr.mono (by decide)) (by rfl) T.mg_l_read_row T.F_l_read_row.kp T.b_l_read_row .nil pass0 (pa_cons (pe_slice sl_str (pv 0) (po_some (pv 2)) po_none) pa_nil)) pa_nil)) (by rfl))
      (pss_cons (ps_if (PW.pt (pw_or (pt_cmpR op_isN1 (pv 4) pe_non (nomark _)) (pw_or1 (pt_cmpR op_isN1 (pv 5) pe_non (nomark _))))) (pss_one (ps_ret pe_non)) pss_nil)
      (pss_one (ps_ret (pe_tup (pa_cons (pe_ix ix_tup (pv 5) pe_int (fun _ _ => rfl)) (pa_cons (pe_ix ix_tup (pv 4) pe_int (fun _ _ => rfl)) (pa_cons (pe_ix ix_tup (pv 5) pe_int (fun _ _ => rfl)) (pa_cons (pe_ix ix_tup (pv 4) pe_int (fun _ _ => rfl)) (pa_cons (pv 1) pa_nil)))))))))))), ?_⟩
    have eA : ∀ {σ : L2.St} {H : Hp} {te : TE} {m : List Nat}, Ev te σ H (.str (S m)) → (∀ c ∈ m, c < 128) → m.length ≤ 1000 → Ev (tCall (spAlpha fun l => l.all let1) [] E0 (tCons te tNil)) σ H (.bl (m.all let1)) := fun h ha hl H1 e Q q => h H1 e _ fun H2 e2 => ⟨_, rfl, ha, hl, fun H' s => q H' (e2.trans s)⟩
    have hb := dol_le b
    have sb := strip36_sub b
    have hw := tw_le (p := let1) (strip36 b)
    refine q_asg (v := .int (dol b : Nat)) (Evl.ev_if (b := decide (b.head? = some 36)) (et_test ?eD) (fun hb => ?_) (fun hb => ?_)) fun H1 e1 => ?_
    case eD =>
      have g := ev_op (ev_slS (σ := [some (.str (S b)), some (shV sh), none, none, none, none]) (H := H) (z := S b) (ev_var (i := 0) rfl) eo_none (eo_some (ev_c (v := .int 1))) (by rw [len_S]; omega)) (ev_c (v := .str (Str.ofString "$"))) (rv_eq rfl)
      rw [cut1, take1] at g
      exact g
    · have z : dol b = 1 := if_pos (of_decide_eq_true hb)
      rw [z]
      exact ev_c
    · have z : dol b = 0 := if_neg (of_decide_eq_false hb)
      rw [z]
      exact ev_c
    refine q_forR1 (n := 4) (ea_cons ev_c ea_nil) (by decide) (fun i σ' H' => ∃ t : Option V, σ' = [some (.str (S b)), some (shV sh), some (.int ((dol b + min i ((strip36 b).takeWhile let1).length : Nat) : Int)), t, none, none] ∧ Ex H H')
      (fun H2 e2 => ⟨none, by rw [Nat.zero_min]; rfl, e1.trans e2⟩) ?_ ?_
    · rintro i σ' H2 hi ⟨t, rfl, e2⟩
      have key := tw_len (p := let1) (strip36 b) (min i ((strip36 b).takeWhile let1).length) (Nat.min_le_right _ _)
      have at_ : b[dol b + min i ((strip36 b).takeWhile let1).length]? = (strip36 b)[min i ((strip36 b).takeWhile let1).length]? := by
        rw [← dol_drop, List.getElem?_drop]
      generalize hk : min i ((strip36 b).takeWhile let1).length = k at *
      refine s_when (b := decide (k < ((strip36 b).takeWhile let1).length)) (et_is (et_and (et_test (ev_op (ev_var rfl) (ev_lenS (K := K) (l := b) (ev_var rfl) (by omega)) rv_I0)) fun hlt => et_B (b := ((strip36 b)[k]?.map let1).getD false) ?_) ?_) (fun ht H3 e3 => ?_) (fun hf H3 e3 => ?_)
      · have hlt : ((dol b + k : Nat) : Int) < (b.length : Int) := of_decide_eq_true hlt
        have hx : (strip36 b)[k]? = some ((strip36 b)[k]'(by omega)) := List.getElem?_eq_getElem _
        rw [hx] at at_
        have e0 := ev_at (σ := [some (.str (S b)), some (shV sh), some (.int ((dol b + k : Nat) : Int)), some (.int (i : Int)), none, none]) (H := H2) (l := b) (i := dol b + k) (ev_var (i := 0) rfl) (ev_var (i := 2) rfl) at_ (by omega)
        have g := eA (m := [(strip36 b)[k]'(by omega)]) e0 (fun x hx => by rw [List.mem_singleton.mp hx]; exact ha _ (List.mem_of_getElem? at_)) (by show 1 ≤ 1000; decide)
        rw [hx]
        have z : [(strip36 b)[k]'(by omega)].all let1 = ((some ((strip36 b)[k]'(by omega))).map let1).getD false := by simp
        rw [← z]
        exact g
      · rw [← key]
        congr 1
        exact decide_eq_decide.mpr (by omega)
      · have ht := of_decide_eq_true ht
        refine s_asg (v := .int ((dol b + k + 1 : Nat) : Int)) (ev_op (ev_var rfl) ev_c rv_I0) fun H4 e4 => ⟨some (.int (i : Int)), ?_, (e2.trans e3).trans e4⟩
        have z : min (i + 1) ((strip36 b).takeWhile let1).length = k + 1 := by omega
        rw [z]
        rfl
      · have hf := of_decide_eq_false hf
        refine ⟨some (.int (i : Int)), ?_, e2.trans e3⟩
        have z : min (i + 1) ((strip36 b).takeWhile let1).length = k := by omega
        rw [z]
        rfl
    · rintro σ' H2 ⟨t, rfl, e2⟩
      have hm : many b ≤ ((strip36 b).takeWhile let1).length := by unfold many; omega
      have hmn : min (4 : Int).toNat ((strip36 b).takeWhile let1).length = many b := rfl
      rw [hmn]
      obtain ⟨tm1, tm2⟩ := take_many b hm
      have tm3 : decide ((b.take (dol b + many b)).head? = some 36) = decide (b.head? = some 36) := decide_eq_decide.mpr tm2
      have dm := drop_many b (many b)
      have pm := parse_many b sh
      have xa : ∀ c ∈ b.take (dol b + many b), c < 128 := fun c hc => ha c ((List.take_sublist _ _).subset hc)
      have xl : (b.take (dol b + many b)).length ≤ 1000 := by rw [List.length_take]; omega
      have ya : ∀ c ∈ b.drop (dol b + many b), c < 128 := fun c hc => ha c ((List.drop_sublist _ _).subset hc)
      have yl : (b.drop (dol b + many b)).length ≤ 1000 := by rw [List.length_drop]; omega
      have sX : ∀ {H3 : Hp}, Ev (tSl rSlS (tVar 0) tNoPart (tPart (tVar 2))) [some (.str (S b)), some (shV sh), some (.int ((dol b + many b : Nat) : Int)), t, none, none] H3 (.str (S (b.take (dol b + many b)))) := fun {H3} => by
        have g := ev_slS (σ := [some (.str (S b)), some (shV sh), some (.int ((dol b + many b : Nat) : Int)), t, none, none]) (H := H3) (z := S b) (ev_var (i := 0) rfl) eo_none (eo_some (ev_var (i := 2) rfl)) (by rw [len_S]; omega)
        rw [sl_to b (by omega)] at g
        exact g
      have sY : ∀ {H3 : Hp}, Ev (tSl rSlS (tVar 0) (tPart (tVar 2)) tNoPart) [some (.str (S b)), some (shV sh), some (.int ((dol b + many b : Nat) : Int)), t, none, none] H3 (.str (S (b.drop (dol b + many b)))) := fun {H3} => by
        have g := ev_slS (σ := [some (.str (S b)), some (shV sh), some (.int ((dol b + many b : Nat) : Int)), t, none, none]) (H := H3) (z := S b) (ev_var (i := 0) rfl) (eo_some (ev_var (i := 2) rfl)) eo_none (by rw [len_S]; omega)
        rw [sl_from b (by omega)] at g
        exact g
      rw [dm] at sY ya yl
      generalize b.take (dol b + many b) = X at *
      rw [← tm1] at pm
      rw [← tm3] at pm
      generalize (strip36 b).drop (many b) = Y at *
      rw [pm] at h0 h1
      have en : ∀ {σ : L2.St} {H : Hp} {te : TE} {v : V}, Ev te σ H v → Ev (tOp rIsN te (tC .non)) σ H (.bl (decide (v = .non))) := fun h => ev_op h ev_c fun H1 _ Q q => ⟨rfl, q H1 (Ex.refl H1)⟩
      cases hx : colText (strip36 X) with
      | false =>
        have g0 := h0 (if_neg fun q => absurd (hx.symm.trans q.1) (by decide))
        refine sX H2 (Ex.refl H2) _ fun H3 e3 => ⟨X, rfl, xa, xl, fun _ H4 e4 => ?_, fun z => absurd (hx.symm.trans z) (by decide)⟩
        cases hy : rowText (strip36 Y) with
        | false =>
          refine sY H4 (Ex.refl H4) _ fun H5 e5 => ⟨Y, rfl, ya, yl, fun _ H6 e6 => ?_, fun z => absurd (hy.symm.trans z) (by decide)⟩
          refine ⟨_, _, rfl, ?_⟩
          dsimp only
          refine q_when (b := true) (et_is (et_or (b := true) (et_test (en (ev_var (v := .non) rfl))) fun z => nomatch z) rfl) (fun _ H7 e7 => ?_) fun z => nomatch z
          exact g0 H7 (((((e2.trans e3).trans e4).trans e5).trans e6).trans e7)
        | true =>
          refine sY H4 (Ex.refl H4) _ fun H5 e5 => ⟨Y, rfl, ya, yl, fun z => absurd (hy.symm.trans z) (by decide), fun _ u H6 nu e6 hu => ?_⟩
          refine ⟨_, _, rfl, ?_⟩
          dsimp only
          refine q_when (b := true) (et_is (et_or (b := true) (et_test (en (ev_var (v := .non) rfl))) fun z => nomatch z) rfl) (fun _ H7 e7 => ?_) fun z => nomatch z
          exact g0 H7 (((((e2.trans e3).trans e4).trans e5).trans e6).trans e7)
      | true =>
        refine sX H2 (Ex.refl H2) _ fun H3 e3 => ⟨X, rfl, xa, xl, fun z => absurd (hx.symm.trans z) (by decide), fun _ u H4 nu e4 hu => ?_⟩
        cases hy : rowText (strip36 Y) with
        | false =>
          have g0 := h0 (if_neg fun q => absurd (hy.symm.trans q.2) (by decide))
          refine sY H4 (Ex.refl H4) _ fun H5 e5 => ⟨Y, rfl, ya, yl, fun _ H6 e6 => ?_, fun z => absurd (hy.symm.trans z) (by decide)⟩
          refine ⟨_, _, rfl, ?_⟩
          dsimp only
          refine q_when (b := true) (et_is (et_or (b := true) (et_test (en (ev_var (v := .ref u) rfl))) fun _ => et_test (en (ev_var (v := .non) rfl))) rfl) (fun _ H7 e7 => ?_) fun z => nomatch z
          exact g0 H7 (((((e2.trans e3).trans e4).trans e5).trans e6).trans e7)
        | true =>
          have g1 := h1 _ _ _ _ _ (if_pos ⟨hx, hy⟩)
          refine sY H4 (Ex.refl H4) _ fun H5 e5 => ⟨Y, rfl, ya, yl, fun z => absurd (hy.symm.trans z) (by decide), fun _ v H6 nv e6 hv => ?_⟩
          refine ⟨_, _, rfl, ?_⟩
          dsimp only
          refine q_when (b := false) (et_is (et_or (et_test (en (ev_var (v := .ref u) rfl))) fun _ => et_test (en (ev_var (v := .ref v) rfl))) rfl) (fun z => nomatch z) (fun _ H7 e7 => ?_)
          have hu7 := e7 _ _ (e6 _ _ (e5 _ _ hu))
          have hv7 := e7 _ _ hv
          have e27 := (((e2.trans e3).trans e4).trans e5).trans (e6.trans e7)
          have ix : ∀ {σ : L2.St} {j : Nat} {a : Addr} {xs : List V} {i : Int} {x : V}, σ[j]? = some (some (.ref a)) → H7 a = some (.tup xs) → atI xs i = some x → Ev (tOp (rIxT K) (tVar j) (tC (.int i))) σ H7 x := fun h ht hi => ev_op (ev_var h) ev_c (rv_ixT (st_of ht) hi)
          refine (eu_tup (ea_cons (ix rfl hv7 (i := 0) rfl) (ea_cons (ix rfl hu7 (i := 0) rfl) (ea_cons (ix rfl hv7 (i := 1) rfl) (ea_cons (ix rfl hu7 (i := 1) rfl) (ea_cons (ev_var rfl) ea_nil))))) (by show 5 ≤ 100000; decide)) H7 (Ex.refl H7) _ fun t H8 nt e8 ht => ?_
          exact g1 t H8 (fresh_back e27 nt) (e27.trans e8) ht
end
end K18

set_option Elab.async false
set_option linter.all false
set_option maxRecDepth 100000
set_option maxHeartbeats 4000000
namespace K18
open PySem PySem.Spec PyProof.Rows L2 Pen EV2 Evl TX LamX
abbrev s_l_sheet_name : Stmt := topS 57
abbrev N_l_sheet_name : List Str := ["_law_pen_here", "_law_found", "_law_turn"]
abbrev P_l_sheet_name : List Str := ["_law_pen_here"]
theorem sc_l_sheet_name : FnScope N_l_sheet_name P_l_sheet_name (defScope s_l_sheet_name) := ⟨rfl, rfl, rfl, by decide +kernel, rfl, by decide +kernel, by decide +kernel⟩
structure AdN4 where
  f_sheet_name : Addr
  d_sheet_name : FuncData
structure TxtN4 (K : PySem.W.Frag) (mg : Str → Option Value) (p : AdN4) : Prop where
  mg_l_sheet_name : mg "_law_sheet_name" = some (.ref p.f_sheet_name)
  F_l_sheet_name : Fun K "_law_sheet_name" "_law_sheet_name" s_l_sheet_name p.f_sheet_name p.d_sheet_name
  b_l_sheet_name : Binds K p.d_sheet_name P_l_sheet_name []

abbrev rAdS : R2 := fun x y H Q => ∃ i j : Str, x = .str i ∧ y = .str j ∧ i.length + j.length ≤ sizeLine ∧ Q (.str (i ++ j)) H
def spSheetN : Sp := fun vs H Q _ => ∃ (q c : Addr) (cs : List Int) (i r : Int), vs = [.ref q] ∧ PenAt H q c cs i r ∧ i < 2 ^ 37 ∧
  ∀ (l : List Nat) (i' r' : Int) (H' : Hp), shOk (some l) → sheetOk l = true → i ≤ i' → i' ≤ i + 20 → Sib q H H' → PenAt H' q c cs i' r' → Q (.str (S l)) H'
section
variable {P : Program} {w : World} {K : PySem.W.Frag} {mg : Str → Option Value} {base : Heap} {ph : AdL} {p : AdN4}
/-- a name that a sheet may have, as it is written -/
def nmB (x : Str) : Bool := (x.cps.toList.all fun c => decide (c < 128)) && decide (x.cps.toList.length ≤ 12) && sheetOk x.cps.toList
def nmP (_ : Hp) (v : V) : Prop := ∃ x : Str, v = .str x ∧ nmB x = true
theorem nm_st : ∀ H H' v, Ex H H' → nmP H v → nmP H' v := fun _ _ _ _ h => h
def pool1 : List Nat := [65, 66, 67, 68, 69, 70, 71, 72, 73, 74, 75, 76, 77, 78, 79, 80, 81, 82, 83, 84, 85, 86, 87, 88, 89, 90, 97, 98, 99, 120, 121, 122]
def pool2 : List Nat := [97, 65, 122, 90, 48, 57, 109, 53]
theorem ok_l_sheet_name (TH : TxtH K mg ph) (T : TxtN4 K mg p) : FnOk P w K mg base CX0 3 p.f_sheet_name p.d_sheet_name P_l_sheet_name spSheetN := by
  have TA : TxtA mg := ⟨TH.n_list, TH.n_int, TH.n_len⟩
  have G_l_signs : FnOk P w K mg base CX0 1 ph.f_signs ph.d_signs P_l_signs spSigns := ok_l_signs TH
  have G_l_draw : FnOk P w K mg base CX0 1 ph.f_draw ph.d_draw P_l_draw spDraw := ok_l_draw TH.F_l_draw TA
  have G_l_pick : FnOk P w K mg base CX0 2 ph.f_pick ph.d_pick P_l_pick (spPick K) := ok_l_pick TH.F_l_pick TA TH.F_l_draw TH.b_l_draw TH.mg_l_draw
  refine T.F_l_sheet_name.ok sc_l_sheet_name (fun vs H Q E h => ?_) (fun cdv A outer s H vs Q E hr h => ?_)
  · obtain ⟨q, c, cs, i, r, rfl, _⟩ := h
    rfl
  · obtain ⟨q, c, cs, i, r, rfl, D, hi, k⟩ := h
    refine ⟨_, (pss_cons (ps_if (pt_cmpR op_eq (pe_call G_l_draw (hr.mono (by decide)) (by rfl) TH.mg_l_draw TH.F_l_draw.kp TH.b_l_draw .nil pass0 (pa_cons (pv 0) (pa_cons pe_int pa_nil))) pe_int (nomark _)) (pss_one (ps_ret (pe_call G_l_pick (hr.mono (by decide)) (by rfl) TH.mg_l_pick TH.F_l_pick.kp TH.b_l_pick .nil pass0 (pa_cons (pv 0) (pa_cons (pe_lst (pa_cons pe_str (pa_cons pe_str (pa_cons pe_str (pa_cons pe_str (pa_cons pe_str pa_nil)))))) pa_nil))))) pss_nil)
      (pss_cons (ps_set (i := 1) sc_l_sheet_name.nd rfl (Or.inl rfl) (pe_call G_l_pick (hr.mono (by decide)) (by rfl) TH.mg_l_pick TH.F_l_pick.kp TH.b_l_pick .nil pass0 (pa_cons (pv 0) (pa_cons (pe_callTy (T := "list") (call_listS rfl) (by rfl) TH.n_list (by decide +kernel) (pa_cons (pe_op op_add_str (pe_call0 G_l_signs (hr.mono (by decide)) (by rfl) TH.mg_l_signs TH.F_l_signs.kp TH.b_l_signs .nil pass0) pe_str) pa_nil)) pa_nil))))
      (pss_cons (ps_for PassesOwn.never rfl (pi_range1 (by rfl) TH.n_range (pa_cons (pe_call G_l_draw (hr.mono (by decide)) (by rfl) TH.mg_l_draw TH.F_l_draw.kp TH.b_l_draw .nil pass0 (pa_cons (pv 0) (pa_cons pe_int pa_nil))) pa_nil)) (pg_name (i := 2) sc_l_sheet_name.nd rfl (Or.inl rfl)) (pss_one (ps_set (i := 1) sc_l_sheet_name.nd rfl (Or.inl rfl) (pe_op op_add_str (pv 1) (pe_call G_l_pick (hr.mono (by decide)) (by rfl) TH.mg_l_pick TH.F_l_pick.kp TH.b_l_pick .nil pass0 (pa_cons (pv 0) (pa_cons (pe_callTy (T := "list") (call_listS rfl) (by rfl) TH.n_list (by decide +kernel) (pa_cons pe_str pa_nil)) pa_nil)))))))
      (pss_one (ps_ret (pv 1)))))), ?_⟩
    refine ⟨_, rfl, q, c, cs, i, r, 2, rfl, D, by omega, by decide, by decide, fun z i1 r1 H1 z0 z1 j0 j1 sb D1 => ⟨rfl, _, rfl, ?_⟩⟩
    refine ite2 (fun _ => ?_) (fun _ => ?_)
    · refine ⟨_, rfl, rd_ps (P := nmP) (n := 5) nm_st ?hv (by decide) fun l vs H2 hl e2 hL hlen hP => ?_⟩
      case hv =>
        refine eps_cons nm_st (ep_v ev_c fun _ => ⟨_, rfl, by decide +kernel⟩) ?_
        refine eps_cons nm_st (ep_v ev_c fun _ => ⟨_, rfl, by decide +kernel⟩) ?_
        refine eps_cons nm_st (ep_v ev_c fun _ => ⟨_, rfl, by decide +kernel⟩) ?_
        refine eps_cons nm_st (ep_v ev_c fun _ => ⟨_, rfl, by decide +kernel⟩) ?_
        refine eps_cons nm_st (ep_v ev_c fun _ => ⟨_, rfl, by decide +kernel⟩) ?_
        exact eps_nil
      have D2 := D1.keep e2
      refine ⟨q, c, cs, i1, r1, l, vs, rfl, D2, by omega, SqL.of hL, by omega, by omega, ne_of hL D2.hp (by intro z; cases z), fun x i2 r2 H3 hx j2 j3 sb2 D3 => ?_⟩
      obtain ⟨x, rfl, hB⟩ := hP x hx
      unfold nmB at hB
      simp only [Bool.and_eq_true, List.all_eq_true, decide_eq_true_eq] at hB
      have e : (V.str x : V) = .str (S x.cps.toList) := by
        show V.str x = V.str ⟨x.cps.toList.toArray⟩
        simp
      rw [e]
      exact k x.cps.toList i2 r2 H3 ⟨hB.1.1, by omega⟩ hB.2 (by omega) (by omega) (sb.trans (Sib.trans (fun b o _ h => e2 b o h) sb2)) D3
    · unfold tNext
      dsimp only
      refine q_asgK ?_
      have el : ∀ {σ : L2.St} {H : Hp}, EvL (tCB rLstS (tCons (tOp rAdS (tCall spSigns [] E0 tNil) (tC (.str (Str.ofString "abcxyz")))) tNil)) σ H (pool1.map sg) := fun {σ H} => el_listS (ev_is (ev_addS (l := [65, 66, 67, 68, 69, 70, 71, 72, 73, 74, 75, 76, 77, 78, 79, 80, 81, 82, 83, 84, 85, 86, 87, 88, 89, 90]) (m := [97, 98, 99, 120, 121, 122]) (ev_is ev_signs (by decide +kernel)) (ev_is ev_c (by decide +kernel)) (by decide)) (by decide +kernel)) (by decide)
      refine ⟨_, rfl, el H1 (Ex.refl H1) _ fun l H2 hl e2 hL => ?_⟩
      have D2 := D1.keep e2
      refine ⟨q, c, cs, i1, r1, l, _, rfl, D2, by omega, SqL.of hL, by decide, by decide, ne_of hL D2.hp (by intro z; cases z), fun x i2 r2 H3 hx j2 j3 sb2 D3 => ?_⟩
      obtain ⟨y, hy, rfl⟩ := List.mem_map.mp hx
      have p1 : ∀ y ∈ pool1, let1 y = true ∧ y < 128 := by decide +kernel
      have p2 : ∀ y ∈ pool2, aln1 y = true ∧ y < 128 := by decide +kernel
      have sb3 : Sib q H H3 := sb.trans (Sib.trans (fun b o _ h => e2 b o h) sb2)
      refine ⟨_, rfl, q, c, cs, i2, r2, 12, rfl, D3, by omega, by decide, by decide, fun z i3 r3 H4 z0 z1 j4 j5 sb4 D4 => ?_⟩
      refine ⟨z, rfl, by omega, by omega, for_range (n := z.toNat) (fun j σ' H' => ∃ (w : List Nat) (i' r' : Int) (t : Option V), σ' = [some (.ref q), some (.str (S w)), t] ∧ PenAt H' q c cs i' r' ∧ Sib q H H' ∧ (∀ x ∈ w, x < 128) ∧ w.length ≤ 1 + j ∧ 1 ≤ w.length ∧ w.all aln1 = true ∧ (w.head?.map let1).getD false = true ∧ i ≤ i' ∧ i' ≤ i + 3 + j) ⟨[y], i3, r3, _, rfl, D4, sb3.trans sb4, (fun x hx => by rw [List.mem_singleton.mp hx]; exact (p1 y hy).2), Nat.le_refl _, Nat.le_refl _, by simp [aln1, (p1 y hy).1], by simp [(p1 y hy).1], by omega, by omega⟩ ?_ ?_⟩
      · rintro j σ' H5 hj ⟨w, i4, r4, t, rfl, D5, sb5, ha, w1, w2, w3, w4, j6, j7⟩
        have el2 : ∀ {σ : L2.St} {H : Hp}, EvL (tCB rLstS (tCons (tC (.str (Str.ofString "aAzZ09m5"))) tNil)) σ H (pool2.map sg) := fun {σ H} => el_listS (l := pool2) (ev_is ev_c (by decide +kernel)) (by decide)
        refine ⟨_, rfl, _, rfl, el2 H5 (Ex.refl H5) _ fun l H6 hl e6 hL6 => ?_⟩
        have D6 := D5.keep e6
        refine ⟨q, c, cs, i4, r4, l, _, rfl, D6, by omega, SqL.of hL6, by decide, by decide, ne_of hL6 D6.hp (by intro z; cases z), fun x i5 r5 H7 hx7 j8 j9 sb7 D7 => ?_⟩
        obtain ⟨u, hu, rfl⟩ := List.mem_map.mp hx7
        have hz : w.length ≤ 13 := by omega
        refine ⟨S w, S [u], rfl, rfl, ?_, ?_⟩
        · rw [len_S, len_S]
          exact sz_of (by show w.length + 1 ≤ 100000; omega)
        · rw [app_S]
          refine ⟨w ++ [u], i5, r5, _, rfl, D7, sb5.trans (Sib.trans (fun b o _ h => e6 b o h) sb7), fun x hx => ?_, by rw [List.length_append]; show w.length + 1 ≤ 1 + (j + 1); omega, by rw [List.length_append]; omega, ?_, ?_, by omega, by omega⟩
          · rcases List.mem_append.mp hx with h | h
            · exact ha x h
            · rw [List.mem_singleton.mp h]
              exact (p2 u hu).2
          · rw [List.all_append, w3]
            simp [(p2 u hu).1]
          · cases w with
            | nil => exact absurd w2 (by decide)
            | cons a w => exact w4
      · rintro σ' H5 ⟨w, i4, r4, t, rfl, D5, sb5, ha, w1, w2, w3, w4, j6, j7⟩
        refine ⟨_, rfl, k w i4 r4 H5 ⟨ha, by omega⟩ ?_ (by omega) (by omega) sb5 D5⟩
        unfold sheetOk
        rw [decide_eq_true w2, decide_eq_true (show w.length ≤ 12 by omega), w3, w4]
        rfl
end
end K18

set_option Elab.async false
set_option linter.all false
set_option maxRecDepth 100000
set_option maxHeartbeats 4000000
namespace K18
open PySem PySem.Spec PyProof.Rows L2 Pen EV2 Evl TX LamX
abbrev s_l_spoilt : Stmt := topS 59
abbrev N_l_spoilt : List Str := ["_law_pen_here", "_law_text", "_law_signs_here", "_law_at", "_law_sign", "_law_path"]
abbrev P_l_spoilt : List Str := ["_law_pen_here", "_law_text", "_law_signs_here"]
theorem sc_l_spoilt : FnScope N_l_spoilt P_l_spoilt (defScope s_l_spoilt) := ⟨rfl, rfl, rfl, by decide +kernel, rfl, by decide +kernel, by decide +kernel⟩
abbrev s_l_parted : Stmt := topS 68
abbrev N_l_parted : List Str := ["_law_text", "_law_ahead", "_law_sign", "_law_rest"]
abbrev P_l_parted : List Str := ["_law_text"]
theorem sc_l_parted : FnScope N_l_parted P_l_parted (defScope s_l_parted) := ⟨rfl, rfl, rfl, by decide +kernel, rfl, by decide +kernel, by decide +kernel⟩
structure AdN5 where
  f_spoilt : Addr
  d_spoilt : FuncData
  f_parted : Addr
  d_parted : FuncData
structure TxtN5 (K : PySem.W.Frag) (mg : Str → Option Value) (p : AdN5) : Prop where
  mg_l_spoilt : mg "_law_spoilt" = some (.ref p.f_spoilt)
  F_l_spoilt : Fun K "_law_spoilt" "_law_spoilt" s_l_spoilt p.f_spoilt p.d_spoilt
  b_l_spoilt : Binds K p.d_spoilt P_l_spoilt []
  mg_l_parted : mg "_law_parted" = some (.ref p.f_parted)
  F_l_parted : Fun K "_law_parted" "_law_parted" s_l_parted p.f_parted p.d_parted
  b_l_parted : Binds K p.d_parted P_l_parted []

def spSpoilt : Sp := fun vs H Q _ => ∃ (q c : Addr) (cs : List Int) (i r : Int) (l m : List Nat), vs = [.ref q, .str (S l), .str (S m)] ∧ PenAt H q c cs i r ∧ i < 2 ^ 38 ∧ (∀ x ∈ l, x < 128) ∧ (∀ x ∈ m, x < 128) ∧ l.length ≤ 900 ∧ 0 < m.length ∧ m.length ≤ 1000 ∧
  ∀ (l' : List Nat) (i' r' : Int) (H' : Hp), (∀ x ∈ l', x < 128) → l'.length ≤ l.length + 1 → i ≤ i' → i' ≤ i + 3 → Sib q H H' → PenAt H' q c cs i' r' → Q (.str (S l')) H'
/-- == of two places as Addresses -/
def eqA (n m : Int) (fr fc : Bool) (sh : Option (List Nat)) (n2 m2 : Int) (fr2 fc2 : Bool) (sh2 : Option (List Nat)) : Bool := decide (n = n2) && decide (m = m2) && alike sh sh2 && decide (fr = fr2) && decide (fc = fc2)
theorem atI_n {xs : List V} {j : Nat} {v : V} (h : xs[j]? = some v) : atI xs (j : Int) = some v := by
  have hl : j < xs.length := (List.getElem?_eq_some_iff.mp h).1
  unfold atI ixN
  rw [if_pos (by omega), if_pos (by omega), Option.bind_some]
  exact h
/-- a text at its first '!' -/
def partV (l : List Nat) : List V := match firstBang l with
  | none => [.non, .str (S l)]
  | some (a, b) => if sheetOk a = true then [.str (S a), .str (S b)] else [.non, .non]
def spParted : Sp := fun vs H Q _ => ∃ l : List Nat, vs = [.str (S l)] ∧ (∀ c ∈ l, c < 128) ∧ l.length ≤ 1000 ∧ ∀ t H', Same H H' → H' t = some (.tup (partV l)) → Q (.ref t) H'
def pParts (l : List Nat) : List Nat × List Nat × List Nat := match firstBang l with
  | none => (l, [], [])
  | some (a, b) => (a, [33], b)
theorem part_P (l : List Nat) : Txt.partition (S l) (S [33]) = (S (pParts l).1, S (pParts l).2.1, S (pParts l).2.2) := by
  rw [part_S]
  unfold pParts
  cases firstBang l with
  | none => rfl
  | some p => rfl
abbrev rPt : V → List V → Hp → VK → Prop := fun x xs H Q => ∃ a b, x = .str a ∧ xs = [.str b] ∧ (b.length == 0) = false ∧ a.length ≤ sizeLine ∧
    ∀ p, H p = none → Q (.ref p) (upd H p (.tup [.str (Txt.partition a b).1, .str (Txt.partition a b).2.1, .str (Txt.partition a b).2.2]))
theorem q_pt {K : PySem.W.Frag} {σ : L2.St} {H : Hp} {te : TE} {l : List Nat} {g : TG} {tz : TS} {D : Ends} (h : Ev te σ H (.str (S l))) (hl : l.length ≤ 100000) (k : ∀ t H1, H t = none → Ex H H1 → H1 t = some (.tup [.str (S (pParts l).1), .str (S (pParts l).2.1), .str (S (pParts l).2.2)]) → g (.ref t) σ H1 (tz D)) :
    tSeq (tAsg (tBM K "str" rPt te (tCons (tC (.str (Str.ofString "!"))) tNil)) g) tz D σ H :=
  h H (Ex.refl H) _ fun H1 e1 => ⟨rfl, S l, S [33], rfl, rfl, rfl, by rw [len_S]; exact sz_of hl, fun t ht => k t _ (fresh_back e1 ht) (e1.trans (Ex.new ht)) (by rw [upd_same, part_P])⟩
section
variable {P : Program} {w : World} {K : PySem.W.Frag} {mg : Str → Option Value} {base : Heap} {ph : AdL} {p2 : AdN2} {p : AdN5}
theorem ok_l_spoilt (TH : TxtH K mg ph) (T : TxtN5 K mg p) : FnOk P w K mg base CX0 3 p.f_spoilt p.d_spoilt P_l_spoilt spSpoilt := by
  have TA : TxtA mg := ⟨TH.n_list, TH.n_int, TH.n_len⟩
  have G_l_draw : FnOk P w K mg base CX0 1 ph.f_draw ph.d_draw P_l_draw spDraw := ok_l_draw TH.F_l_draw TA
  have G_l_pick : FnOk P w K mg base CX0 2 ph.f_pick ph.d_pick P_l_pick (spPick K) := ok_l_pick TH.F_l_pick TA TH.F_l_draw TH.b_l_draw TH.mg_l_draw
  refine T.F_l_spoilt.ok sc_l_spoilt (fun vs H Q E h => ?_) (fun cdv A outer s H vs Q E hr h => ?_)
  · obtain ⟨q, c, cs, i, r, l, m, rfl, _⟩ := h
    rfl
  · obtain ⟨q, c, cs, i, r, l, m, rfl, D, hi, la, ma, ll, m0, ml, k⟩ := h
    refine ⟨_, (pss_cons (ps_par (i := 3) (j := 4) (by rfl) sc_l_spoilt.nd rfl rfl (by decide) rfl rfl (pa_cons (pe_call G_l_draw (hr.mono (by decide)) (by rfl) TH.mg_l_draw TH.F_l_draw.kp TH.b_l_draw .nil pass0 (pa_cons (pv 0) (pa_cons (pe_op op_add (pe_callB (id := "len") call_len (by rfl) TH.n_len (by decide +kernel) (pa_cons (pv 1) pa_nil)) pe_int) pa_nil))) (pa_cons (pe_call G_l_pick (hr.mono (by decide)) (by rfl) TH.mg_l_pick TH.F_l_pick.kp TH.b_l_pick .nil pass0 (pa_cons (pv 0) (pa_cons (pe_callTy (T := "list") (call_listS rfl) (by rfl) TH.n_list (by decide +kernel) (pa_cons (pv 2) pa_nil)) pa_nil))) pa_nil)) (by rfl))
      (pss_cons (ps_set (i := 5) sc_l_spoilt.nd rfl (Or.inl rfl) (pe_call G_l_draw (hr.mono (by decide)) (by rfl) TH.mg_l_draw TH.F_l_draw.kp TH.b_l_draw .nil pass0 (pa_cons (pv 0) (pa_cons pe_int pa_nil))))
      (pss_cons (ps_if (pt_cmpR op_eq (pv 5) pe_int (nomark _)) (pss_one (ps_ret (pe_op op_add_str (pe_op op_add_str (pe_slice sl_str (pv 1) po_none (po_some (pv 3))) (pv 4)) (pe_slice sl_str (pv 1) (po_some (pv 3)) po_none)))) pss_nil)
      (pss_one (ps_ret (pe_ifExp (pt_cmpR op_eq (pv 5) pe_int (nomark _)) (pe_op op_add_str (pe_slice sl_str (pv 1) po_none (po_some (pv 3))) (pe_slice sl_str (pv 1) (po_some (pe_op op_add (pv 3) pe_int)) po_none)) (pe_op op_add_str (pe_op op_add_str (pe_slice sl_str (pv 1) po_none (po_some (pv 3))) (pv 4)) (pe_slice sl_str (pv 1) (po_some (pe_op op_add (pv 3) pe_int)) po_none)))))))), ?_⟩
    refine ⟨_, rfl, (ev_op (ev_lenS (K := K) (l := l) (ev_var rfl) (by omega)) ev_c rv_I0) H (Ex.refl H) _ fun H0 e0 => ?_⟩
    have D0 := D.keep e0
    refine ⟨q, c, cs, i, r, _, rfl, D0, by omega, by omega, by omega, fun z i1 r1 H1 z0 z1 j0 j1 sb1 D1 => ?_⟩
    refine ⟨_, rfl, (el_listS (l := m) (ev_var rfl) (by omega)) H1 (Ex.refl H1) _ fun u H2 hu e2 hU => ?_⟩
    have D2 := D1.keep e2
    refine ⟨q, c, cs, i1, r1, u, _, rfl, D2, by omega, SqL.of hU, by rw [List.length_map]; omega, by rw [List.length_map]; omega, ne_of hU D2.hp (by intro z; cases z), fun x i2 r2 H3 hx j2 j3 sb3 D3 => ⟨_, _, rfl, ?_⟩⟩
    obtain ⟨y, hy, rfl⟩ := List.mem_map.mp hx
    have ya := ma y hy
    obtain ⟨n, rfl⟩ : ∃ n : Nat, z = n := ⟨z.toNat, by omega⟩
    have hn : n ≤ l.length := by omega
    dsimp only
    refine q_asgK ⟨_, rfl, q, c, cs, i2, r2, 3, rfl, D3, by omega, by decide, by decide, fun y2 i3 r3 H4 y0 y1 j4 j5 sb4 D4 => ?_⟩
    have sbA : Sib q H H4 := Sib.trans (fun b o _ h => e0 b o h) (sb1.trans (Sib.trans (fun b o _ h => e2 b o h) (sb3.trans sb4)))
    have s0 : ∀ {a : Int} {v : V} {H : Hp}, Ev (tSl rSlS (tVar 1) tNoPart (tPart (tVar 3))) [some (.ref q), some (.str (S l)), some (.str (S m)), some (.int (n : Int)), some (sg y), some v] H (.str (S (l.take n))) := fun {a v H} => by
      have g := ev_slS (σ := [some (.ref q), some (.str (S l)), some (.str (S m)), some (.int (n : Int)), some (sg y), some v]) (H := H) (z := S l) (ev_var (i := 1) rfl) eo_none (eo_some (ev_var (i := 3) rfl)) (by rw [len_S]; omega)
      rw [sl_to l hn] at g
      exact g
    have s1 : ∀ {v : V} {H : Hp}, Ev (tSl rSlS (tVar 1) (tPart (tVar 3)) tNoPart) [some (.ref q), some (.str (S l)), some (.str (S m)), some (.int (n : Int)), some (sg y), some v] H (.str (S (l.drop n))) := fun {v H} => by
      have g := ev_slS (σ := [some (.ref q), some (.str (S l)), some (.str (S m)), some (.int (n : Int)), some (sg y), some v]) (H := H) (z := S l) (ev_var (i := 1) rfl) (eo_some (ev_var (i := 3) rfl)) eo_none (by rw [len_S]; omega)
      rw [sl_fromA l] at g
      exact g
    have s2 : ∀ {v : V} {H : Hp}, Ev (tSl rSlS (tVar 1) (tPart (tOp (rI0 fun i j => .int (i + j)) (tVar 3) (tC (.int 1)))) tNoPart) [some (.ref q), some (.str (S l)), some (.str (S m)), some (.int (n : Int)), some (sg y), some v] H (.str (S (l.drop (n + 1)))) := fun {v H} => by
      have g := ev_slS (σ := [some (.ref q), some (.str (S l)), some (.str (S m)), some (.int (n : Int)), some (sg y), some v]) (H := H) (z := S l) (ev_var (i := 1) rfl) (eo_some (i := ((n + 1 : Nat) : Int)) (ev_op (ev_var (i := 3) rfl) (ev_c (v := .int 1)) (rv_I0 (g := fun i j => .int (i + j))))) eo_none (by rw [len_S]; omega)
      rw [sl_fromA l] at g
      exact g
    have t1 : ∀ x ∈ l.take n, x < 128 := fun x hx => la x ((List.take_sublist _ _).subset hx)
    have d1 : ∀ k, ∀ x ∈ l.drop k, x < 128 := fun k x hx => la x ((List.drop_sublist _ _).subset hx)
    have L1 : (l.take n).length = n := by rw [List.length_take]; omega
    have L2 : (l.drop n).length = l.length - n := List.length_drop ..
    have L3 : (l.drop (n + 1)).length = l.length - (n + 1) := List.length_drop ..
    have fin : ∀ (l' : List Nat) (H5 : Hp), Ex H4 H5 → (∀ x ∈ l', x < 128) → l'.length ≤ l.length + 1 → Q (.str (S l')) H5 := fun l' H5 e5 a b => k l' i3 r3 H5 a b (by omega) (by omega) (sbA.trans fun b o _ h => e5 b o h) (D4.keep e5)
    have asc : ∀ (k : Nat) (b : Bool), ∀ x ∈ (l.take n ++ (if b = true then [y] else [])) ++ l.drop k, x < 128 := fun k b x hx => by
      rcases List.mem_append.mp hx with h | h
      · rcases List.mem_append.mp h with h | h
        · exact t1 x h
        · cases b with
          | true => rw [List.mem_singleton.mp h]; exact ya
          | false => cases h
      · exact d1 k x h
    refine q_when (b := decide (V.int y2 = V.int 0)) (et_test (ev_op (ev_var rfl) ev_c (rv_eq rfl))) (fun hb H5 e5 => ?_) (fun hb H5 e5 => ?_)
    · refine (ev_addS (l := l.take n ++ [y]) (m := l.drop n) (ev_addS (l := l.take n) (m := [y]) (s0 (a := 0)) (ev_var rfl) (by rw [L1]; show n + 1 ≤ 100000; omega)) s1 (by rw [List.length_append, L1, L2]; show n + 1 + _ ≤ 100000; omega)) H5 (Ex.refl H5) _ fun H6 e6 => ?_
      exact fin _ H6 (e5.trans e6) (asc n true) (by rw [List.length_append, List.length_append, L1, L2]; show n + 1 + _ ≤ _; omega)
    · refine (Evl.ev_if (v := .str (S (l.take n ++ (if y2 = 1 then [] else [y]) ++ l.drop (n + 1)))) (et_test (ev_op (ev_var rfl) ev_c (rv_eq rfl))) (fun hb => ?_) (fun hb => ?_)) H5 (Ex.refl H5) _ fun H6 e6 => ?_
      · have hb : y2 = 1 := V.int.inj (of_decide_eq_true hb)
        rw [if_pos hb, List.append_nil]
        exact ev_addS (s0 (a := 0)) s2 (by rw [L1, L3]; omega)
      · have hb : ¬ y2 = 1 := fun z => of_decide_eq_false hb (by rw [z])
        rw [if_neg hb]
        exact ev_addS (l := l.take n ++ [y]) (m := l.drop (n + 1)) (ev_addS (l := l.take n) (m := [y]) (s0 (a := 0)) (ev_var rfl) (by rw [L1]; show n + 1 ≤ 100000; omega)) s2 (by rw [List.length_append, L1, L3]; show n + 1 + _ ≤ 100000; omega)
      · refine fin _ H6 (e5.trans e6) ?_ ?_
        · by_cases hb : y2 = 1
          · rw [if_pos hb]
            exact asc (n + 1) false
          · rw [if_neg hb]
            exact asc (n + 1) true
        · rw [List.length_append, List.length_append, L1, L3]
          by_cases hb : y2 = 1
          · rw [if_pos hb]
            show n + 0 + _ ≤ _
            omega
          · rw [if_neg hb]
            show n + 1 + _ ≤ _
            omega
theorem ok_l_parted (TH : TxtH K mg ph) (T2 : TxtN2 K mg p2) (T : TxtN5 K mg p) : FnOk P w K mg base CX0 4 p.f_parted p.d_parted P_l_parted spParted := by
  have G_l_is_sheet : FnOk P w K mg base CX0 3 p2.f_is_sheet p2.d_is_sheet P_l_is_sheet (spAlpha sheetOk) := ok_l_is_sheet TH T2
  refine T.F_l_parted.ok sc_l_parted (fun vs H Q E h => ?_) (fun cdv A outer s H vs Q E hr h => ?_)
  · obtain ⟨l, rfl, _⟩ := h
    rfl
  · obtain ⟨l, rfl, ha, hl, k⟩ := h
    refine ⟨_, (pss_cons (ps_asg (pe_bm PySem.F.plainAttrs_str PySem.F.slot_str_partition PySem.F.type_str_partition mt_partition (pv 0) (pa_cons pe_str pa_nil)) (pg_tup (by rfl) (pgs_cons (pg_name (i := 1) sc_l_parted.nd rfl (Or.inl rfl)) (pgs_cons (pg_name (i := 2) sc_l_parted.nd rfl (Or.inl rfl)) (pgs_cons (pg_name (i := 3) sc_l_parted.nd rfl (Or.inl rfl)) pgs_nil)))))
      (pss_cons (ps_if (pt_cmpR op_eq (pv 2) pe_str (nomark _)) (pss_one (ps_ret (pe_tup (pa_cons pe_non (pa_cons (pv 0) pa_nil))))) pss_nil)
      (pss_one (ps_ret (pe_ifExp (pt_val (pe_call G_l_is_sheet (hr.mono (by decide)) (by rfl) T2.mg_l_is_sheet T2.F_l_is_sheet.kp T2.b_l_is_sheet .nil pass0 (pa_cons (pv 1) pa_nil))) (pe_tup (pa_cons (pv 1) (pa_cons (pv 3) pa_nil))) (pe_tup (pa_cons pe_non (pa_cons pe_non pa_nil)))))))), ?_⟩
    refine q_pt (K := K) (ev_var rfl) (by omega) fun t H1 nt e1 ht => ?_
    have hP : (∀ c ∈ (pParts l).1, c < 128) ∧ (pParts l).1.length ≤ 1000 ∧ partV l = if (pParts l).2.1 = [] then [.non, .str (S l)] else if sheetOk (pParts l).1 = true then [.str (S (pParts l).1), .str (S (pParts l).2.2)] else [.non, .non] := by
      unfold pParts partV
      cases q : firstBang l with
      | none => exact ⟨ha, hl, rfl⟩
      | some p =>
        obtain ⟨a, b⟩ := p
        obtain ⟨g1, _⟩ := fbang_some q
        have gl := congrArg List.length g1
        rw [List.length_append, List.length_cons] at gl
        exact ⟨fun c h => ha c (by rw [g1]; exact List.mem_append_left _ h), by show a.length ≤ 1000; omega, rfl⟩
    generalize (pParts l).1 = a at hP ht
    generalize (pParts l).2.1 = mk at hP ht
    generalize (pParts l).2.2 = b at hP ht
    obtain ⟨aa, al, hv⟩ := hP
    refine ⟨t, _, rfl, st_of ht, rfl, _, _, rfl, _, _, rfl, _, _, rfl, rfl, ?_⟩
    have zm : decide (V.str (S mk) = V.str (Str.ofString "")) = decide (mk = []) := decide_eq_decide.mpr ⟨fun q => S_inj (V.str.inj q), fun q => by rw [q]; rfl⟩
    refine q_when (b := decide (mk = [])) (et_is (et_test (ev_op (ev_var rfl) ev_c (rv_eq rfl))) zm) (fun hb H2 e2 => ?_) (fun hb H2 e2 => ?_)
    · rw [if_pos (of_decide_eq_true hb)] at hv
      refine (eu_tup (ea_cons ev_c (ea_cons (ev_var rfl) ea_nil)) (by show 2 ≤ 100000; decide)) H2 (Ex.refl H2) _ fun u H3 nu e3 hu => ?_
      exact k u H3 ((e1.trans e2).trans e3) (by rw [hv]; exact hu)
    · rw [if_neg (of_decide_eq_false hb)] at hv
      have eS : Ev (tCall (spAlpha sheetOk) [] E0 (tCons (tVar 1) tNil)) [some (.str (S l)), some (.str (S a)), some (.str (S mk)), some (.str (S b))] H2 (.bl (sheetOk a)) := fun H3 e Q q => ⟨_, rfl, a, rfl, aa, al, fun H' s => q H' s⟩
      refine (et_B eS) H2 (Ex.refl H2) _ fun H3 e3 => ?_
      cases hs : sheetOk a with
      | true =>
        rw [hs, if_pos rfl] at hv
        refine (eu_tup (ea_cons (ev_var rfl) (ea_cons (ev_var rfl) ea_nil)) (by show 2 ≤ 100000; decide)) H3 (Ex.refl H3) _ fun u H4 nu e4 hu => ?_
        exact k u H4 (((e1.trans e2).trans e3).trans e4) (by rw [hv]; exact hu)
      | false =>
        rw [hs, if_neg (by decide)] at hv
        refine (eu_tup (ea_cons ev_c (ea_cons ev_c ea_nil)) (by show 2 ≤ 100000; decide)) H3 (Ex.refl H3) _ fun u H4 nu e4 hu => ?_
        exact k u H4 (((e1.trans e2).trans e3).trans e4) (by rw [hv]; exact hu)
end
end K18

set_option Elab.async false
set_option linter.all false
set_option maxRecDepth 100000
set_option maxHeartbeats 4000000
namespace TX
open PySem PySem.Spec PyProof.Rows L2 Evl
theorem Mx.refl : ∀ l : List Nat, Mx l l
  | [] => .nil
  | x :: l => .cons x x (.inl rfl) (Mx.refl l)
theorem Mx.fix {l m : List Nat} (h : Mx l m) (f : ∀ x ∈ l, low x = x) : m = l := by
  induction h with
  | nil => rfl
  | cons a b q _ ih =>
    have e : b = a := by
      rcases q with q | q
      · exact q
      · rw [q, f a (List.mem_cons_self ..)]
    rw [e, ih fun d hd => f d (List.mem_cons_of_mem _ hd)]
theorem Mx.map {β : Type} {l m : List Nat} {g : Nat → β} (h : Mx l m) (f : ∀ x ∈ l, g (low x) = g x) : m.map g = l.map g := by
  induction h with
  | nil => rfl
  | cons a b q _ ih =>
    have e : g b = g a := by
      rcases q with q | q
      · rw [q]
      · rw [q, f a (List.mem_cons_self ..)]
    rw [List.map_cons, List.map_cons, e, ih fun d hd => f d (List.mem_cons_of_mem _ hd)]
theorem all_map (g : Nat → Bool) : ∀ l : List Nat, l.all g = (l.map g).all id
  | [] => rfl
  | x :: l => by rw [List.all_cons, List.map_cons, List.all_cons, all_map g l]; rfl
theorem Mx.all {l m : List Nat} {g : Nat → Bool} (h : Mx l m) (f : ∀ x ∈ l, g (low x) = g x) : m.all g = l.all g := by
  rw [all_map, all_map, h.map f]
theorem let1_low : ∀ x, x < 128 → let1 (low x) = let1 x := by decide +kernel
theorem aln1_low : ∀ x, x < 128 → aln1 (low x) = aln1 x := by decide +kernel
theorem low_low : ∀ x, x < 128 → low (low x) = low x := by decide +kernel
theorem up_lowA : ∀ x, x < 128 → up (low x) = up x := by decide +kernel
theorem head_Mx {l m : List Nat} {g : Nat → Bool} (h : Mx l m) (f : ∀ x ∈ l, g (low x) = g x) : (m.head?.map g).getD false = (l.head?.map g).getD false := by
  have z := h.map f
  have e : ∀ k : List Nat, (k.head?.map g).getD false = ((k.map g).head?).getD false := fun k => by cases k <;> rfl
  rw [e, e, z]
theorem num_head : ∀ n : Nat, 1 ≤ n → ¬ (TL.numL n).head? = some 48 := by
  intro n
  induction n using Nat.strongRecOn with
  | _ n ih =>
    intro h
    by_cases h2 : n < 10
    · rw [TL.numL_lt h2]
      intro z
      have := Option.some.inj z
      omega
    · rw [TL.numL_step (by omega)]
      intro z
      have ne := TL.numL_ne (n / 10)
      refine ih (n / 10) (by omega) (by omega) ?_
      cases q : TL.numL (n / 10) with
      | nil => exact absurd q ne
      | cons a l =>
        rw [q] at z
        exact z
theorem num_row {n : Nat} (h1 : 1 ≤ n) (h2 : n ≤ 1000000) : rowText (TL.numL n) = true := by
  have a := TL.numL_ne n
  have b : (TL.numL n).length ≤ 7 := TL.numL_len (by decide) (by omega)
  have c := num_head n h1
  have d : (TL.numL n).all dig1 = true := List.all_eq_true.mpr fun x hx => decide_eq_true (TL.numL_digits n x hx)
  have l : 1 ≤ (TL.numL n).length := by
    cases q : TL.numL n with
    | nil => exact absurd q a
    | cons x y => exact Nat.succ_le_succ (Nat.zero_le _)
  unfold rowText
  rw [decide_eq_true l, decide_eq_true b, d, decide_eq_false c, TL.numL_val, decide_eq_true h2]
  rfl
theorem lets_ok {m : Nat} (h1 : 1 ≤ m) (h2 : m ≤ 18278) : 1 ≤ (letsF 3 m).length ∧ (letsF 3 m).length ≤ 3 ∧ (∀ x ∈ letsF 3 m, 65 ≤ x ∧ x ≤ 90) ∧ val (letsF 3 m) = m := by
  refine ⟨?_, lets_len 3 m, lets_rng 3 m, val_lets 3 m (by show m < 18279; omega)⟩
  obtain ⟨k, rfl⟩ : ∃ k, m = k + 1 := ⟨m - 1, by omega⟩
  have := lets_ne (f := 2) (n := k)
  cases q : letsF 3 (k + 1) with
  | nil => exact absurd q this
  | cons a l => exact Nat.succ_le_succ (Nat.zero_le _)
end TX
namespace K18
open PySem PySem.Spec PyProof.Rows L2 Pen EV2 Evl TX LamX
def dl (b : Bool) : List Nat := if b = true then [36] else []
theorem dl_fix (b : Bool) : ∀ x ∈ dl b, low x = x := by cases b <;> decide
theorem num_fix (n : Nat) : ∀ x ∈ TL.numL n, low x = x := fun x hx => by
  have := TL.numL_digits n x hx
  unfold low
  rw [if_neg (by omega)]
theorem tw_app {p : Nat → Bool} : ∀ {u v : List Nat}, u.all p = true → (v.head?.map p).getD false = false → (u ++ v).takeWhile p = u ∧ (u ++ v).dropWhile p = v
  | [], v, _, h => by
    cases v with
    | nil => exact ⟨rfl, rfl⟩
    | cons x v =>
      have hx : p x = false := h
      show (x :: v).takeWhile p = [] ∧ (x :: v).dropWhile p = x :: v
      rw [List.takeWhile_cons, List.dropWhile_cons, hx]
      exact ⟨rfl, rfl⟩
  | x :: u, v, hu, h => by
    rw [List.all_cons, Bool.and_eq_true] at hu
    obtain ⟨h1, h2⟩ := tw_app hu.2 h
    show (x :: (u ++ v)).takeWhile p = x :: u ∧ (x :: (u ++ v)).dropWhile p = v
    rw [List.takeWhile_cons, List.dropWhile_cons, hu.1]
    exact ⟨by rw [if_pos rfl, h1], by rw [if_pos rfl]; exact h2⟩
/-- the letters of a column, some small -/
theorem parse_cell {n m : Nat} {fr fc : Bool} {u : List Nat} {sh : Option (List Nat)} (n1 : 1 ≤ n) (n2 : n ≤ 1000000) (m1 : 1 ≤ m) (m2 : m ≤ 18278) (hu : Mx (letsF 3 m) u) :
    parseC (dl fc ++ (u ++ (dl fr ++ TL.numL n))) sh = some ((n : Int), (m : Int), fr, fc, sh) := by
  obtain ⟨l1, l2, l3, l4⟩ := lets_ok m1 m2
  have asc : ∀ x ∈ letsF 3 m, x < 128 := fun x hx => by have := l3 x hx; omega
  have ul := hu.len
  have uall : u.all let1 = true := by
    rw [hu.all fun x hx => let1_low x (asc x hx)]
    exact List.all_eq_true.mpr fun x hx => by
      have := l3 x hx
      unfold let1 up
      rw [if_neg (by omega)]
      exact decide_eq_true this
  have uval : val (u.map up) = m := by
    rw [hu.map fun x hx => up_lowA x (asc x hx), show (letsF 3 m).map up = letsF 3 m from by
      have : ∀ k : List Nat, (∀ x ∈ k, 65 ≤ x ∧ x ≤ 90) → k.map up = k := fun k => by
        induction k with
        | nil => intro _; rfl
        | cons a k ih =>
          intro h
          rw [List.map_cons, (up_cap (h a (List.mem_cons_self ..))).1, ih fun x hx => h x (List.mem_cons_of_mem _ hx)]
      exact this _ l3]
    exact l4
  obtain ⟨a, u', rfl⟩ : ∃ a u', u = a :: u' := by
    cases u with
    | nil => rw [← ul] at l1; cases l1
    | cons a u' => exact ⟨a, u', rfl⟩
  have a36 : a ≠ 36 := fun z => by
    rw [List.all_cons, z, Bool.and_eq_true] at uall
    exact absurd uall.1 (by decide)
  obtain ⟨d, v', hd⟩ : ∃ d v', TL.numL n = d :: v' := by
    cases q : TL.numL n with
    | nil => exact absurd q (TL.numL_ne n)
    | cons d v' => exact ⟨d, v', rfl⟩
  have hdd := TL.numL_digits n d (by rw [hd]; exact List.mem_cons_self ..)
  have d36 : d ≠ 36 := by omega
  have hv : ((dl fr ++ TL.numL n).head?.map let1).getD false = false := by
    rw [hd]
    cases fr with
    | true => rfl
    | false =>
      show let1 d = false
      unfold let1 up
      rw [if_neg (by omega)]
      exact decide_eq_false (by omega)
  obtain ⟨t1, t2⟩ := tw_app uall hv
  have c0 : (if (dl fc ++ ((a :: u') ++ (dl fr ++ TL.numL n))).head? = some 36 then (dl fc ++ ((a :: u') ++ (dl fr ++ TL.numL n))).tail else (dl fc ++ ((a :: u') ++ (dl fr ++ TL.numL n)))) = (a :: u') ++ (dl fr ++ TL.numL n) := by
    cases fc with
    | true => rfl
    | false => exact if_neg fun z => a36 (Option.some.inj z)
  have f0 : decide ((dl fc ++ ((a :: u') ++ (dl fr ++ TL.numL n))).head? = some 36) = fc := by
    cases fc with
    | true => rfl
    | false => exact decide_eq_false fun z => a36 (Option.some.inj z)
  have r0 : (if (dl fr ++ TL.numL n).head? = some 36 then (dl fr ++ TL.numL n).tail else (dl fr ++ TL.numL n)) = TL.numL n := by
    rw [hd]
    cases fr with
    | true => rfl
    | false => exact if_neg fun z => d36 (Option.some.inj z)
  have f1 : decide ((dl fr ++ TL.numL n).head? = some 36) = fr := by
    rw [hd]
    cases fr with
    | true => rfl
    | false => exact decide_eq_false fun z => d36 (Option.some.inj z)
  have hp : cellParts (dl fc ++ ((a :: u') ++ (dl fr ++ TL.numL n))) = (a :: u', fc, TL.numL n, fr) := by
    unfold cellParts
    dsimp only
    rw [c0, t1, t2, f0, r0, f1]
  unfold parseC
  rw [hp]
  dsimp only
  have ct : colText (a :: u') = true := by
    unfold colText
    rw [ul, decide_eq_true l1, decide_eq_true l2, uall]
    rfl
  rw [if_pos ⟨ct, num_row n1 n2⟩, uval]
  have z : numVal (TL.numL n) = (n : Int) := by
    unfold numVal
    rw [TL.numL_val]
  rw [z]
theorem cell_no33 {n m : Nat} {fr fc : Bool} {u : List Nat} (m1 : 1 ≤ m) (m2 : m ≤ 18278) (hu : Mx (letsF 3 m) u) : 33 ∉ dl fc ++ (u ++ (dl fr ++ TL.numL n)) := fun h => by
  obtain ⟨l1, l2, l3, l4⟩ := lets_ok m1 m2
  have asc : ∀ x ∈ letsF 3 m, x < 128 := fun x hx => by have := l3 x hx; omega
  have uall : u.all let1 = true := by
    rw [hu.all fun x hx => let1_low x (asc x hx)]
    exact List.all_eq_true.mpr fun x hx => by
      have := l3 x hx
      unfold let1 up
      rw [if_neg (by omega)]
      exact decide_eq_true this
  have nd : ∀ b : Bool, 33 ∉ dl b := by decide
  rcases List.mem_append.mp h with h | h
  · exact nd _ h
  · rcases List.mem_append.mp h with h | h
    · exact absurd (List.all_eq_true.mp uall 33 h) (by decide)
    · rcases List.mem_append.mp h with h | h
      · exact nd _ h
      · have := TL.numL_digits n 33 h
        omega
theorem lastBang_no {l : List Nat} (h : 33 ∉ l) : lastBang l = none := by
  cases q : lastBang l with
  | none => rfl
  | some p =>
    obtain ⟨a, b⟩ := p
    exact absurd (by rw [(bang_some q).1]; simp) h
/-- an address's text, some letters small, is read back -/
theorem parse_adr {n m : Nat} {fr fc : Bool} {sh : Option (List Nat)} {t : List Nat} (n1 : 1 ≤ n) (n2 : n ≤ 1000000) (m1 : 1 ≤ m) (m2 : m ≤ 18278) (so : shOk sh) (sg2 : shGood sh = true) (h : Mx (adrText n m fr fc sh) t) :
    parseA t = some ((n : Int), (m : Int), fr, fc, sh.map fun l => t.take l.length) ∧ shOk (sh.map fun l => t.take l.length) ∧ shGood (sh.map fun l => t.take l.length) = true ∧ alike sh (sh.map fun l => t.take l.length) = true := by
  have e : adrText n m fr fc sh = shT sh ++ (dl fc ++ (letsF 3 m ++ (dl fr ++ TL.numL n))) := by
    rw [← adr_text]
    unfold colT rowT dl
    rw [List.append_assoc]
  rw [e] at h
  obtain ⟨s, t1, rfl, hs, h⟩ := h.split
  obtain ⟨d, t2, rfl, hd, h⟩ := h.split
  obtain ⟨u, t3, rfl, hu, h⟩ := h.split
  obtain ⟨r, k, rfl, hr, hk⟩ := h.split
  obtain rfl := hd.fix (dl_fix fc)
  obtain rfl := hr.fix (dl_fix fr)
  obtain rfl := hk.fix (num_fix n)
  have no := cell_no33 (n := n) (fr := fr) (fc := fc) m1 m2 hu
  have pc := fun sh => parse_cell (fr := fr) (fc := fc) (sh := sh) n1 n2 m1 m2 hu
  cases sh with
  | none =>
    cases hs
    unfold parseA
    rw [List.nil_append, lastBang_no no]
    exact ⟨pc none, True.intro, rfl, rfl⟩
  | some l =>
    obtain ⟨l', x, rfl, hl, hx⟩ := Mx.split (a := l) (b := [33]) hs
    obtain rfl := hx.fix (by decide)
    have ll := hl.len
    have asc := so.1
    have tk : ((l' ++ [33]) ++ (dl fc ++ (u ++ (dl fr ++ TL.numL n)))).take l.length = l' := by
      rw [List.append_assoc, ← ll, List.take_left]
    have ok : sheetOk l' = true := by
      have g : sheetOk l = true := sg2
      unfold sheetOk at g ⊢
      rw [ll, hl.all fun x hx => aln1_low x (asc x hx), head_Mx hl fun x hx => let1_low x (asc x hx)]
      exact g
    have z : (some l).map (fun l => ((l' ++ [33]) ++ (dl fc ++ (u ++ (dl fr ++ TL.numL n)))).take l.length) = some l' := by
      exact congrArg some tk
    rw [z]
    refine ⟨?_, ⟨hl.asc asc, by rw [ll]; exact so.2⟩, ok, ?_⟩
    · unfold parseA
      rw [bang_eq (a := l') (b := dl fc ++ (u ++ (dl fr ++ TL.numL n))) (by rw [List.append_assoc]; rfl) no]
      show (if sheetOk l' = true then _ else _) = _
      rw [if_pos ok]
      exact pc (some l')
    · show decide (l.map low = l'.map low) = true
      rw [hl.map fun x hx => low_low x (asc x hx)]
      exact decide_eq_true rfl
end K18

set_option Elab.async false
set_option linter.all false
set_option maxRecDepth 100000
set_option maxHeartbeats 4000000
namespace TX
open PySem PySem.Spec PyProof.Rows L2 Pen EV2 Evl LamX
/-- any reading that is enough for the one asked -/
theorem pe_weak {X : Cx} {e : Expr} {te : TE} (h : PE X e te) : PE X e (fun σ H Q => ∃ Q0 : VK, te σ H Q0 ∧ ∀ v H', Q0 v H' → Q v H') := by
  refine ⟨fun pins s σ H Q I ⟨Q0, h0, hq⟩ => ?_⟩
  exact thn (h.run pins s σ H Q0 I h0) fun v s1 ⟨x, H1, I1, r1, q1⟩ => ⟨x, H1, I1, r1, hq _ _ q1⟩
/-- the slots of the def that is left are as many as its names -/
theorem takes_len {X : Cx} {W : WX} {n : Nat} (tk : Takes X W) (hn : X.N.length = n) : Takes X (fun cls d σ H => σ.length = n → W cls d σ H) := fun u s' ⟨a, B, sI, pins, σ, H, cls, d, e, I, nb, up, sky, na, os, ag, w⟩ =>
  tk u s' ⟨a, B, sI, pins, σ, H, cls, d, e, I, nb, up, sky, na, os, ag, w (I.len.trans hn)⟩
theorem pss_ex {X : Cx} {body : List Stmt} {α : Type} {C : α → Prop} {t : α → TS} (h : ∀ a, C a → PSs X body (t a)) : PSs X body (fun D σ H => ∃ a, C a ∧ t a D σ H) :=
  ⟨fun pins s σ H D I ⟨a, c, q⟩ => (h a c).run pins s σ H D I q⟩
end TX
namespace K18
open PySem PySem.Spec PyProof.Rows L2 Pen EV2 Evl TX LamX
section
variable {P : Program} {w : World} {K : PySem.W.Frag} {mg : Str → Option Value} {base : Heap} {f C : Addr} {fd : FuncData}
abbrev s_TooMany_init : Stmt := inClass (topS 4) 0
abbrev N_TooMany_init : List Str := ["self", "most"]
abbrev P_TooMany_init : List Str := ["self", "most"]
theorem sc_TooMany_init : FnScope N_TooMany_init P_TooMany_init (defScope s_TooMany_init) := ⟨rfl, rfl, rfl, by decide +kernel, rfl, by decide +kernel, by decide +kernel⟩
theorem ok_TooMany_init (F : Fun K "__init__" "TooMany.__init__" s_TooMany_init f fd) (O : OexC K C) (no : PySem.W.findIn K (.ref C) "most" = some none) : FnOk P w K mg base CX0 1 f fd P_TooMany_init (spI1 C "most") := by
  refine F.ok sc_TooMany_init (fun vs H Q E h => ?_) (fun cdv A outer s H vs Q E hr h => ?_)
  · obtain ⟨a, v, rfl, _⟩ := h
    rfl
  · obtain ⟨a, v, rfl, e, k⟩ := h
    exact ⟨_, pss_one (ps_ost (pv 0) (pv 1)), _, rfl, _, rfl, a, C, rfl, O, no, .inl ⟨e, k⟩⟩
theorem kp_TooMany_init (F : Fun K "__init__" "TooMany.__init__" s_TooMany_init f fd) : KBn K fd P_TooMany_init 2 [] (fun us ws => us) (fun vs zs => vs) :=
  kbn_of F (fun _ _ _ _ _ _ us ws l1 l2 => match us, ws, l1, l2 with | [_, _], [], _, _ => rfl) fun r _ => r
end
-- : Stmt := topS 58
-- : List Str := ["_law_call", "_law_told_here", "e"]
-- : List Str := ["_law_call"]
-- : FnScope N_l_told P_l_told (defScope s_l_told) := ⟨rfl, rfl, rfl, by decide +kernel, rfl, by decide +kernel, by decide +kernel⟩
/-- what is told of a call: its answer, its error's field -/
def TT6 (CB CN : Addr) : (XK → Hp → VK → Prop) → Hp → VK → Prop := fun tl H Q => ∀ t0, H t0 = none →
  tl (fun cls d H' => ∃ (C dd : Addr) (fs : List (Str × V)) (nm f : Str) (v : V), cls = .ref C ∧ d = some dd ∧ H' dd = some (.xd fs) ∧ ((C = CB ∧ nm = "BadValue" ∧ f = "value") ∨ (C = CN ∧ nm = "NotAName" ∧ f = "name")) ∧ fs.lookup f = some v ∧ ∀ p, H' p = none → Q (.ref p) (upd H' p (.tup [.str nm, v])))
    (upd H t0 (.tup [.str "nothing"])) (fun v H' => ∀ p, H' p = none → Q (.ref p) (upd H' p (.tup [.str "told", v])))
structure TxtT (K : PySem.W.Frag) (mg : Str → Option Value) (pc : Ads) (CO CM iO iM : Addr) (dO dM : FuncData) : Prop where
  B : Er K mg "BadValue" "BadValue.__init__" s_BadValue_init "value" pc.S pc.CB pc.iB pc.dB
  N : Er K mg "NotAName" "NotAName.__init__" s_NotAName_init "name" pc.S pc.CN pc.iN pc.dN
  O : ErO K mg pc.S CO iO dO
  M : Er K mg "TooMany" "TooMany.__init__" s_TooMany_init "most" pc.S CM iM dM
  nMB : CM ≠ pc.CB
  nNB : pc.CN ≠ pc.CB
  nMN : CM ≠ pc.CN
  nMO : CM ≠ CO
theorem told_gives {X : Cx} {g CO CM iO iM : Addr} {dO dM : FuncData} {cdg : Value} {q : Str} {pc : Ads} (T : TxtT X.K X.mg pc CO CM iO iM dO dM) : GivesTo X N_l_told "_law_told" (defScope s_l_told) g cdg (defBody s_l_told) "_law_call" q (TT6 pc.CB pc.CN) := by
  intro f c' s H Q tl act hc h
  refine ⟨_, pss_cons (ps_set (i := 1) sc_l_told.nd rfl (Or.inl rfl) (pe_tup (pa_cons pe_str pa_nil)))
    (pss_cons (ps_try_asM (i := 2) (n := "e") (tb := fun W => fun D σ H => ∃ Ech : XK, (∀ cls d σ' H', Ech cls d H' → σ'.length = 3 → W cls d σ' H') ∧
        tAsg (tTup (tCons (tC (.str "told")) (tCons (fun σ H Q => ∃ Q0 : VK, (σ[0]? = some (some (.ref f)) ∧ H c' = some (CodeO c' q) ∧ tl Ech H Q0) ∧ ∀ v H', Q0 v H' → Q v H') tNil))) (gName 1) D σ H)
      rfl rfl sc_l_told.nd rfl rfl takes_none5 (fun W pn xe tk _ => ?body)
      (HdAs.cons ⟨by rfl, by decide, .inl T.B.gC⟩ (fun a oe cls d pn hz hf => pss_one (ps_set (i := 1) sc_l_told.nd rfl (Or.inl rfl) (pe_tup (pa_cons pe_str (pa_cons (pe_xf T.B.xf T.B.no hz hf (pv 2)) pa_nil)))))
      (HdAs.cons ⟨by rfl, by decide, .inl T.N.gC⟩ (fun a oe cls d pn hz hf => pss_one (ps_set (i := 1) sc_l_told.nd rfl (Or.inl rfl) (pe_tup (pa_cons pe_str (pa_cons (pe_xf T.N.xf T.N.no hz hf (pv 2)) pa_nil)))))
      (HdAs.cons ⟨by rfl, by decide, .inl T.O.gC⟩ (fun a oe cls d pn hz hf => pss_one (ps_set (i := 1) sc_l_told.nd rfl (Or.inl rfl) (pe_tup (pa_cons pe_str (pa_cons (pe_xf T.O.xf T.O.no hz hf (pv 2)) (pa_cons (pe_xf T.O.xf T.O.no2 hz hf (pv 2)) pa_nil))))))
      (HdAs.cons ⟨by rfl, by decide, .inl T.M.gC⟩ (fun a oe cls d pn hz hf => pss_one (ps_set (i := 1) sc_l_told.nd rfl (Or.inl rfl) (pe_tup (pa_cons pe_str (pa_cons (pe_xf T.M.xf T.M.no hz hf (pv 2)) pa_nil)))))
      HdAs.nil)))))
    (pss_one (ps_ret (pv 1)))), ?read⟩
  case body =>
    exact pss_ex fun Ech hW => pss_one (ps_set (i := 1) sc_l_told.nd rfl (Or.inl rfl) (pe_tup (pa_cons pe_str (pa_cons (pe_weak (act _ pn xe Ech _ _ (takes_len (n := 3) tk rfl) hW)) pa_nil))))
  case read =>
    refine ⟨by show 1 ≤ sizeLine; decide, fun t0 ht0 => ?_⟩
    refine ⟨_, ?_, _, ⟨rfl, by rw [upd_ne (ne_of_none hc ht0)]; exact hc, h t0 ht0⟩, fun v H' hq => ⟨by show 2 ≤ sizeLine; decide, fun p hp => ⟨_, rfl, hq p hp⟩⟩⟩
    · rintro cls d σ' H' ⟨C, dd, fs, nm, fl, v, rfl, rfl, hx, hC, hl, k⟩ h3
      obtain ⟨x0, x1, x2, rfl⟩ : ∃ x0 x1 x2, σ' = [x0, x1, x2] := by
        match σ', h3 with
        | [x0, x1, x2], _ => exact ⟨x0, x1, x2, rfl⟩
      rcases hC with ⟨rfl, rfl, rfl⟩ | ⟨rfl, rfl, rfl⟩
      · refine ⟨true, (exm_sib (K := X.K) T.B.ln T.B.ln T.B.nS).trans (by simp), fun _ a ha => ?_, fun z => nomatch z⟩
        refine ⟨_, rfl, rfl, rfl, dd, fs, v, rfl, hx, hl, by show 2 ≤ sizeLine; decide, fun p hp => ⟨_, rfl, k p hp⟩⟩
      · refine ⟨false, (exm_sib (K := X.K) T.N.ln T.B.ln T.B.nS).trans (by rw [decide_eq_false fun z => T.nNB z.symm]), (fun z => nomatch z), fun _ => ?_⟩
        refine ⟨true, (exm_sib (K := X.K) T.N.ln T.N.ln T.N.nS).trans (by simp), fun _ a ha => ?_, fun z => nomatch z⟩
        refine ⟨_, rfl, rfl, rfl, dd, fs, v, rfl, hx, hl, by show 2 ≤ sizeLine; decide, fun p hp => ⟨_, rfl, k p hp⟩⟩
end K18
namespace K18
open PySem PySem.Spec PyProof.Rows L2 Pen EV2 Evl TX LamX
abbrev s_l_made : Stmt := topS 60
abbrev N_l_made : List Str := ["_law_place"]
abbrev P_l_made : List Str := ["_law_place"]
theorem sc_l_made : FnScope N_l_made P_l_made (defScope s_l_made) := ⟨rfl, rfl, rfl, by decide +kernel, rfl, by decide +kernel, by decide +kernel⟩
abbrev s_l_is : Stmt := topS 64
abbrev N_l_is : List Str := ["_law_address", "_law_place", "_law_fields"]
abbrev P_l_is : List Str := ["_law_address", "_law_place"]
theorem sc_l_is : FnScope N_l_is P_l_is (defScope s_l_is) := ⟨rfl, rfl, rfl, by decide +kernel, rfl, by decide +kernel, by decide +kernel⟩
structure AdN6 where
  f_made : Addr
  d_made : FuncData
  f_is : Addr
  d_is : FuncData
structure TxtN6 (K : PySem.W.Frag) (mg : Str → Option Value) (p : AdN6) : Prop where
  mg_l_made : mg "_law_made" = some (.ref p.f_made)
  F_l_made : Fun K "_law_made" "_law_made" s_l_made p.f_made p.d_made
  b_l_made : Binds K p.d_made P_l_made []
  mg_l_is : mg "_law_is" = some (.ref p.f_is)
  F_l_is : Fun K "_law_is" "_law_is" s_l_is p.f_is p.d_is
  b_l_is : Binds K p.d_is P_l_is []

/-- Address of five values of a tuple or a list -/
def spMade (K : PySem.W.Frag) (p : AdC) (CB : Addr) : Sp := fun vs H Q E => ∃ (t : Addr) (v0 v1 v2 v3 v4 : V) (n0 n1 n2 n3 : String) (g0 g1 g2 g3 g4 : Bool), vs = [.ref t] ∧ (H t = some (.tup [v0, v1, v2, v3, v4]) ∨ H t = some (.lst [v0, v1, v2, v3, v4])) ∧ InitOk K p CB H t v0 v1 v2 v3 v4 n0 n1 n2 n3 g0 g1 g2 g3 g4 ∧
  (g0 = false → bad CB "value" H v0 E) ∧ (g0 = true → g1 = false → bad CB "value" H v1 E) ∧ (g0 = true → g1 = true → g2 = false → bad CB "value" H v2 E) ∧ (g0 = true → g1 = true → g2 = true → g3 = false → bad CB "value" H v3 E) ∧
  (g0 = true → g1 = true → g2 = true → g3 = true → g4 = false → bad CB "value" H v4 E) ∧
  (∀ r c fr fc sh, v0 = .int r → v1 = .int c → v2 = .bl fr → v3 = .bl fc → v4 = shV sh → g4 = true → (gridOk r c = false → badG p.CO H r c E) ∧ (gridOk r c = true → ∀ x dx H', H x = none → Same H H' → H' x = some (.ins p.C dx (flds r c fr fc sh)) → Q (.ref x) H'))
def shD : Option (List Nat) → PyData
  | none => .none
  | some l => .str (S l)
def plcD (r c : Int) (fr fc : Bool) (sh : Option (List Nat)) : List PyData := [.int r, .int c, .bool fr, .bool fc, shD sh]
theorem plc_dp {K : PySem.W.Frag} {H : Hp} {r c : Int} {fr fc : Bool} {sh : Option (List Nat)} : DpAll K H (plc r c fr fc sh) (plcD r c fr fc sh) := by
  refine .cons (.int r) (.cons (.int c) (.cons (.bl fr) (.cons (.bl fc) (.cons ?_ .nil))))
  cases sh with
  | none => exact .non
  | some l => exact .str _
theorem plc_shaped {r c : Int} {fr fc : Bool} {sh : Option (List Nat)} (so : shOk sh) : SeqAt.shaped (.tuple (plcD r c fr fc sh)) = true := by
  unfold SeqAt.shaped plcD
  cases sh with
  | none => rfl
  | some l =>
    refine Bool.and_eq_true_iff.mpr ⟨?_, decide_eq_true ?_⟩
    · show (true && (true && (true && (true && (PyData.strOk (S l) && true))))) = true
      rw [strOk_S so.1]
      rfl
    · show max 0 (max 0 (max 0 (max 0 (max 0 0)))) + 1 ≤ 64
      decide
theorem plc_eqv {r c : Int} {fr fc : Bool} {sh : Option (List Nat)} : PyData.eqv (.tuple (plcD r c fr fc sh)) (.tuple (plcD r c fr fc sh)) = true := by
  have e : PyData.eqv (shD sh) (shD sh) = true := by
    cases sh with
    | none => rfl
    | some l => show (S l == S l) = true; simp
  have e1 : PyData.eqv (.bool fr) (.bool fr) = true := by cases fr <;> rfl
  have e2 : PyData.eqv (.bool fc) (.bool fc) = true := by cases fc <;> rfl
  show ((r == r) && ((c == c) && (PyData.eqv (.bool fr) (.bool fr) && (PyData.eqv (.bool fc) (.bool fc) && (PyData.eqv (shD sh) (shD sh) && true))))) = true
  rw [e, e1, e2]
  simp
theorem InitOk.to {K : PySem.W.Frag} {p : AdC} {CB : Addr} {H : Hp} {x y : Addr} {v0 v1 v2 v3 v4 : V} {n0 n1 n2 n3 : String} {g0 g1 g2 g3 g4 : Bool} (h : InitOk K p CB H x v0 v1 v2 v3 v4 n0 n1 n2 n3 g0 g1 g2 g3 g4) : InitOk K p CB H y v0 v1 v2 v3 v4 n0 n1 n2 n3 g0 g1 g2 g3 g4 :=
  ⟨h.k0, h.k1, h.k2, h.k3, h.h0, h.h1, h.h2, h.h3, h.i0, h.i1, h.i2, h.i3, h.h4⟩
theorem badG.at {CO : Addr} {H H' : Hp} {r c : Int} {E : XK} (b : badG CO H r c E) (e : Ex H H') : badG CO H' r c E := fun d H2 s n x => b d H2 (e.trans s) (fresh_back e n) x
/-- is the same five parts -/
def spIs (C : Addr) : Sp := fun vs H Q _ => ∃ (a dx t : Addr) (r c : Int) (fr fc : Bool) (sh : Option (List Nat)), vs = [.ref a, .ref t] ∧ H a = some (.ins C dx (flds r c fr fc sh)) ∧ H t = some (.tup (plc r c fr fc sh)) ∧ shOk sh ∧ ∀ H', Same H H' → Q (.bl true) H'
section
variable {P : Program} {w : World} {K : PySem.W.Frag} {mg : Str → Option Value} {base : Heap} {pc : Ads} {pg : AdG} {pa : AdC} {D : Addr} {p : AdN6}
theorem ok_l_made (TC : TxtC K mg pc) (TG : TxtG K mg pg) (TA : TxtA6 K mg pc.S pa) (Z : TxtB K mg pa D) (T : TxtN6 K mg p) : FnOk P w K mg base (L2.CX P w) 6 p.f_made p.d_made P_l_made (spMade K pa pc.CB) := by
  refine T.F_l_made.okX sc_l_made (fun vs H Q E h => ?_) (fun cdv A outer s H vs Q E hr h => ?_)
  · obtain ⟨t, v0, v1, v2, v3, v4, n0, n1, n2, n3, g0, g1, g2, g3, g4, rfl, _⟩ := h
    rfl
  · obtain ⟨t, v0, v1, v2, v3, v4, n0, n1, n2, n3, g0, g1, g2, g3, g4, rfl, ht, I, b0, b1, b2, b3, b4, k⟩ := h
    have main : ∀ {r : R2}, (∀ {H' : Hp} {i : Int} {v : V}, Ex H H' → atI [v0, v1, v2, v3, v4] i = some v → Ev (tOp r (tVar 0) (tC (.int i))) [some (.ref t)] H' v) → tRet (tMakeK pa.C 2 3 (spInit K pa pc.CB) (fun vs zs => vs ++ zs) E (tCons (tOp r (tVar 0) (tC (.int 0))) (tCons (tOp r (tVar 0) (tC (.int 1))) tNil)) (tCons (tOp r (tVar 0) (tC (.int 2))) (tCons (tOp r (tVar 0) (tC (.int 3))) (tCons (tOp r (tVar 0) (tC (.int 4))) tNil)))) { nx := fun x H' => Q V.non H', rt := Q } [some (.ref t)] H := fun ix => by
      refine s_makeK (vs := [v0, v1]) (zs := [v2, v3, v4]) (ea_cons (ix (Ex.refl H) rfl) (ea_cons (ix (Ex.refl H) rfl) ea_nil)) (ea_cons (ix (Ex.refl H) rfl) (ea_cons (ix (Ex.refl H) rfl) (ea_cons (ix (Ex.refl H) rfl) ea_nil))) rfl rfl fun H3 e3 x dx nx ndx ne => ?_
      have nx2 : (upd H3 dx (.own x)) x = none := by rw [upd_ne fun z => ne z.symm]; exact nx
      have e4 : Ex H (upd (upd H3 dx (.own x)) x (.ins pa.C dx [])) := e3.trans ((Ex.new ndx).trans (Ex.new nx2))
      refine ⟨x, dx, v0, v1, v2, v3, v4, n0, n1, n2, n3, g0, g1, g2, g3, g4, rfl, upd_same, (I.ext e4).to, fun a => (b0 a).at e4, fun a b => (b1 a b).at e4, fun a b c => (b2 a b c).at e4, fun a b c d => (b3 a b c d).at e4, fun a b c d e => (b4 a b c d e).at e4, fun r c fr fc sh h0 h1 h2 h3 h4 h5 => ?_⟩
      obtain ⟨kb, kg⟩ := k r c fr fc sh h0 h1 h2 h3 h4 h5
      refine ⟨fun z => (kb z).at e4, fun z H5 e5 => ⟨rfl, kg z x dx _ (fresh_back e3 nx) (fun b o hb => ?_) upd_same⟩⟩
      have hb3 := e3 _ _ hb
      rw [upd_ne (ne_of_none hb3 nx)]
      exact e5 _ _ (e4 _ _ hb)
    rcases ht with ht | ht
    · refine ⟨_, (pss_one (ps_ret (pe_makeK (n := 2) Z.mkA (ok_Address_init TC TG TA) (hr.mono (by decide)) (by rfl) TA.mg_Address (kb_Address TA.F_init) (passes_call (takes_of rfl rfl rfl rfl) fun _ _ _ _ h => h) (pa_cons (pe_ix ix_tup (pv 0) pe_int (fun _ _ => rfl)) (pa_cons (pe_ix ix_tup (pv 0) pe_int (fun _ _ => rfl)) pa_nil)) (pk_cons (pe_ix ix_tup (pv 0) pe_int (fun _ _ => rfl)) (pk_cons (pe_ix ix_tup (pv 0) pe_int (fun _ _ => rfl)) (pk_cons (pe_ix ix_tup (pv 0) pe_int (fun _ _ => rfl)) pk_nil)))))), ?_⟩
      exact main fun e h => ev_op (ev_var rfl) ev_c (rv_ixT (st_of (e _ _ ht)) h)
    · refine ⟨_, (pss_one (ps_ret (pe_makeK (n := 2) Z.mkA (ok_Address_init TC TG TA) (hr.mono (by decide)) (by rfl) TA.mg_Address (kb_Address TA.F_init) (passes_call (takes_of rfl rfl rfl rfl) fun _ _ _ _ h => h) (pa_cons (pe_ix ix_list (pv 0) pe_int (fun _ _ => rfl)) (pa_cons (pe_ix ix_list (pv 0) pe_int (fun _ _ => rfl)) pa_nil)) (pk_cons (pe_ix ix_list (pv 0) pe_int (fun _ _ => rfl)) (pk_cons (pe_ix ix_list (pv 0) pe_int (fun _ _ => rfl)) (pk_cons (pe_ix ix_list (pv 0) pe_int (fun _ _ => rfl)) pk_nil)))))), ?_⟩
      exact main fun e h => ev_op (ev_var rfl) ev_c (rv_ixL (sq_of (e _ _ ht)) h)
theorem ok_l_is (TC : TxtC K mg pc) (TA : TxtA6 K mg pc.S pa) (Z : TxtB K mg pa D) (T : TxtN6 K mg p) : FnOk P w K mg base CX0 1 p.f_is p.d_is P_l_is (spIs pa.C) := by
  refine T.F_l_is.ok sc_l_is (fun vs H Q E h => ?_) (fun cdv A outer s H vs Q E hr h => ?_)
  · obtain ⟨a, dx, t, r, c, fr, fc, sh, rfl, _⟩ := h
    rfl
  · obtain ⟨a, dx, t, r, c, fr, fc, sh, rfl, ha, ht, so, k⟩ := h
    refine ⟨_, (pss_cons (ps_if (PW.pt (pw_or (pt_not (pt_val (pe_callB (id := "isinstance") call_isi (by rfl) TC.n_isinstance (by decide +kernel) (pa_cons (pv 0) (pa_cons (pe_glob (v := .ref pa.C) (by rfl) TA.mg_Address rfl) pa_nil))))) (pw_or (pt_val (pe_callB (id := "isinstance") call_isi (by rfl) TC.n_isinstance (by decide +kernel) (pa_cons (pe_fld (pv 0) rfl) (pa_cons (pe_bltn (v := .ty "bool") (by rfl) TC.n_bool (by decide +kernel) rfl) pa_nil)))) (pw_or1 (pt_val (pe_callB (id := "isinstance") call_isi (by rfl) TC.n_isinstance (by decide +kernel) (pa_cons (pe_fld (pv 0) rfl) (pa_cons (pe_bltn (v := .ty "bool") (by rfl) TC.n_bool (by decide +kernel) rfl) pa_nil)))))))) (pss_one (ps_ret pe_bl)) pss_nil)
      (pss_cons (ps_if (PW.pt (pw_or (pt_not (pt_val (pe_callB (id := "isinstance") call_isi (by rfl) TC.n_isinstance (by decide +kernel) (pa_cons (pe_fld (pv 0) rfl) (pa_cons (pe_bltn (v := .ty "bool") (by rfl) TC.n_bool (by decide +kernel) rfl) pa_nil))))) (pw_or1 (pt_not (pt_val (pe_callB (id := "isinstance") call_isi (by rfl) TC.n_isinstance (by decide +kernel) (pa_cons (pe_fld (pv 0) rfl) (pa_cons (pe_bltn (v := .ty "bool") (by rfl) TC.n_bool (by decide +kernel) rfl) pa_nil)))))))) (pss_one (ps_ret pe_bl)) pss_nil)
      (pss_cons (ps_set (i := 2) sc_l_is.nd rfl (Or.inl rfl) (pe_tup (pa_cons (pe_fld (pv 0) rfl) (pa_cons (pe_fld (pv 0) rfl) (pa_cons (pe_fld (pv 0) rfl) (pa_cons (pe_fld (pv 0) rfl) (pa_cons (pe_fld (pv 0) rfl) pa_nil)))))))
      (pss_one (ps_ret (pe_cmpR (op_eqD hr.units) (pv 2) (pv 1) (nomark _))))))), ?_⟩
    have me : PySem.W.kitOne K (.ref pa.C) (.ref pa.C) = some true := by
      unfold PySem.W.kitOne
      rw [if_pos (by simp)]
    have ei : Ev (tCB (rIsi K) (tCons (tVar 0) (tCons (tC (.ref pa.C)) tNil))) [some (.ref a), some (.ref t), none] H (.bl true) := fun H1 e Q q => ⟨_, rfl, .ref a, .ref pa.C, .ref pa.C, .ref pa.C, true, rfl, .own pa.C, adr_ty TA Z (e _ _ ha), me, q H1 (Ex.refl H1)⟩
    have fa : ∀ {H' : Hp} {x y : Option V} {f : Str} {v : V}, Ex H H' → NoAttr K pa.C f → (flds r c fr fc sh).lookup f = some v → Ev (tFld K (tVar 0) f) [some (.ref a), x, y] H' v := fun e n hl => ev_fld (ev_var rfl) (e _ _ ha) TA.cl n hl
    refine q_when (b := false) (et_is (et_or (et_not (et_B ei)) fun _ => et_or (et_B (ev_isi (b := false) knd_int (by decide +kernel) (fa (v := .int r) (Ex.refl H) TA.n_row rfl))) fun _ => et_B (ev_isi (b := false) knd_int (by decide +kernel) (fa (v := .int c) (Ex.refl H) TA.n_column rfl))) rfl) (fun z => nomatch z) fun _ H1 e1 => ?_
    refine q_when (b := false) (et_is (et_or (et_not (et_B (ev_isi (b := true) knd_bl (by decide +kernel) (fa (v := .bl fr) e1 TA.n_fixed_row rfl)))) fun _ => et_not (et_B (ev_isi (b := true) knd_bl (by decide +kernel) (fa (v := .bl fc) e1 TA.n_fixed_column rfl)))) rfl) (fun z => nomatch z) fun _ H2 e2 => ?_
    have e12 := e1.trans e2
    refine q_asgU (eu_tup (vs := plc r c fr fc sh) (ea_cons (fa e12 TA.n_row rfl) (ea_cons (fa e12 TA.n_column rfl) (ea_cons (fa e12 TA.n_fixed_row rfl) (ea_cons (fa e12 TA.n_fixed_column rfl) (ea_cons (fa e12 TA.n_sheet rfl) ea_nil))))) (by show 5 ≤ 100000; decide)) fun u H3 nu e3 hu => ?_
    refine ⟨_, rfl, _, rfl, _, _, .tup (st_of hu) plc_dp, .tup (st_of ((e12.trans e3) _ _ ht)) plc_dp, plc_shaped so, plc_shaped so, ?_⟩
    rw [plc_eqv]
    exact k H3 (e12.trans e3)
end
end K18

namespace K18
open PySem PySem.Spec PyProof.Rows L2 Pen EV2 Evl TX LamX
theorem gridOk_of {n m : Nat} (n1 : 1 ≤ n) (n2 : n ≤ 1000000) (m1 : 1 ≤ m) (m2 : m ≤ 18278) : gridOk n m = true := by
  unfold gridOk
  rw [decide_eq_true (show (1 : Int) ≤ n ∧ (n : Int) ≤ 1000000 by omega), decide_eq_true (show (1 : Int) ≤ m ∧ (m : Int) ≤ 18278 by omega)]
  rfl
theorem shV_inj {a b : Option (List Nat)} (h : shV a = shV b) : a = b := by
  cases a with
  | none => cases b with
    | none => rfl
    | some l => cases h
  | some k => cases b with
    | none => cases h
    | some l => exact congrArg some (S_inj (V.str.inj h))
section
variable {K : PySem.W.Frag} {p : AdC} {CB : Addr} {σ : L2.St} {H : Hp} {te : TE} {t : Addr} {r c : Int} {fr fc : Bool} {sh : Option (List Nat)}
theorem made_ok {Q : VK} {E : XK} (ht : H t = some (.tup (plc r c fr fc sh)) ∨ H t = some (.lst (plc r c fr fc sh))) (so : shOk sh) (sg2 : shGood sh = true) (k1 : gridOk r c = true → ∀ x dx H', H x = none → Same H H' → H' x = some (.ins p.C dx (flds r c fr fc sh)) → Q (.ref x) H') (k0 : gridOk r c = false → badG p.CO H r c E) : spMade K p CB [.ref t] H Q E :=
  ⟨t, _, _, _, _, _, "int", "int", "bool", "bool", true, true, true, true, true, rfl, ht,
    ⟨knd_int, knd_int, knd_bl, knd_bl, ⟨true, false, by decide +kernel, by decide +kernel, rfl⟩, ⟨true, false, by decide +kernel, by decide +kernel, rfl⟩, by decide +kernel, by decide +kernel, fun _ => ⟨r, rfl⟩, fun _ => ⟨c, rfl⟩, fun _ => ⟨fr, rfl⟩, fun _ => ⟨fc, rfl⟩, .inl ⟨sh, rfl, so, sg2.symm⟩⟩,
    (fun z => nomatch z), (fun _ z => nomatch z), (fun _ _ z => nomatch z), (fun _ _ _ z => nomatch z), (fun _ _ _ _ z => nomatch z), by
      intro r2 c2 fr2 fc2 sh2 h0 h1 h2 h3 h4 _
      cases h0
      cases h1
      cases h2
      cases h3
      have h5 := shV_inj h4
      subst h5
      exact ⟨k0, k1⟩⟩
theorem en_made {E : XK} (h : Ev te σ H (.ref t)) (ht : H t = some (.tup (plc r c fr fc sh))) (so : shOk sh) (sg2 : shGood sh = true) (g : gridOk r c = true) : EvNew p.C (tCall (spMade K p CB) [] E (tCons te tNil)) σ H (flds r c fr fc sh) := fun H1 e Q q =>
  h H1 e _ fun H2 e2 => made_ok (.inl ((e.trans e2) _ _ ht)) so sg2 (fun _ x dx H' nx s h2 => q x dx H' (fresh_back e2 nx) (e2.trans s) h2) fun z => absurd (g.symm.trans z) (by decide)
end
section
variable {P : Program} {w : World} {K : PySem.W.Frag} {mg : Str → Option Value} {base : Heap} {ph : AdL} {pc : Ads} {pg : AdG} {pa : AdC} {D NC : Addr} {mv : List Value} {px : AdN} {p5 : AdN5} {p6 : AdN6} {p : AdN7} {fR fA : Addr} {dR dA : FuncData}
end
end K18

namespace K18
open PySem PySem.Spec PyProof.Rows L2 Pen EV2 Evl TX LamX
abbrev qOf (x : Str) : Str := (x ++ ".<locals>.") ++ "<lambda>"
theorem q_parT {σ : L2.St} {H : Hp} {ta : TA} {i j : Nat} {tz : TS} {D : Ends} {v w : V} (h : EvA ta σ H [v, w]) (k : ∀ H1, Ex H H1 → tz D ((σ.set i (some v)).set j (some w)) H1) : tSeq (tPar i j ta) tz D σ H := h H (Ex.refl H) _ fun H1 e1 => ⟨v, w, rfl, k H1 e1⟩
/-- tuples stay -/
def KpT (H H' : Hp) : Prop := ∀ a xs, H a = some (.tup xs) → H' a = some (.tup xs)
theorem KpT.trans {H H1 H2 : Hp} (a : KpT H H1) (b : KpT H1 H2) : KpT H H2 := fun c xs h => b c xs (a c xs h)
theorem KpT.ex {H H' : Hp} (e : Ex H H') : KpT H H' := fun a xs h => e _ _ h
theorem KpT.extN {H H' : Hp} (e : ExtN H H') : KpT H H' := fun a xs h => e _ _ h (fun _ z => by cases z)
theorem KpT.sib {H H' : Hp} {p : Addr} {kv : List (Key × V)} (hp : H p = some (.dK kv)) (e : Sib p H H') : KpT H H' := fun a xs h => e _ _ (ne_of h hp (by intro z; cases z)) h
theorem KpT.put {H : Hp} {l : Addr} {xs ys : List V} (hl : H l = some (.lst xs)) : KpT H (upd H l (.lst ys)) := fun a zs h => by
  rw [upd_ne (ne_of h hl (by intro z; cases z))]
  exact h
theorem tabs_put {T : List (Addr × Str)} {H : Hp} {l : Addr} {xs ys : List V} (hl : H l = some (.lst xs)) (t : Tabs T H) : Tabs T (upd H l (.lst ys)) := fun x hx => by
  obtain ⟨ps, h1, h2, h3⟩ := t x hx
  refine ⟨ps, ?_, h2, fun pos cv hc => ?_⟩
  · rw [upd_ne (ne_of h1 hl (by intro z; cases z))]
    exact h1
  · obtain ⟨c, e1, e2⟩ := h3 pos cv hc
    refine ⟨c, e1, ?_⟩
    rw [upd_ne (ne_of e2 hl (by intro z; unfold CodeO at z; cases z))]
    exact e2
theorem pen_put {H : Hp} {q c l : Addr} {cs : List Int} {i r : Int} {xs ys : List V} (D : PenAt H q c cs i r) (hl : H l = some (.lst xs)) (n : l ≠ c) : PenAt (upd H l (.lst ys)) q c cs i r :=
  ⟨by rw [upd_ne (ne_of D.hp hl (by intro z; cases z))]; exact D.hp, by rw [upd_ne n.symm]; exact D.hc, D.hl, D.h0, D.h1⟩
section
variable {P : Program} {w : World} {K : PySem.W.Frag} {mg : Str → Option Value} {base : Heap} {ph : AdL} {pc : Ads} {pg : AdG} {pa : AdC} {D NC : Addr} {mv : List Value} {p4 : AdN4} {p6 : AdN6} {CM fT : Addr} {dT : FuncData} {TT : List (Addr × Str)}
end
end K18


set_option Elab.async false
set_option linter.all false
set_option maxRecDepth 100000
set_option maxHeartbeats 4000000
namespace K18
open PySem PySem.Spec PyProof.Rows L2 Pen EV2 Evl TX LamX
abbrev s_check_address : Stmt := topS 36
abbrev N_check_address : List Str := ["value"]
abbrev P_check_address : List Str := ["value"]
theorem sc_check_address : FnScope N_check_address P_check_address (defScope s_check_address) := ⟨rfl, rfl, rfl, by decide +kernel, rfl, by decide +kernel, by decide +kernel⟩
abbrev s_check_area : Stmt := topS 37
abbrev N_check_area : List Str := ["value"]
abbrev P_check_area : List Str := ["value"]
theorem sc_check_area : FnScope N_check_area P_check_area (defScope s_check_area) := ⟨rfl, rfl, rfl, by decide +kernel, rfl, by decide +kernel, by decide +kernel⟩
abbrev s_may_meet : Stmt := topS 38
abbrev N_may_meet : List Str := ["one", "other"]
abbrev P_may_meet : List Str := ["one", "other"]
theorem sc_may_meet : FnScope N_may_meet P_may_meet (defScope s_may_meet) := ⟨rfl, rfl, rfl, by decide +kernel, rfl, by decide +kernel, by decide +kernel⟩
abbrev s__ordered : Stmt := topS 45
abbrev N__ordered : List Str := ["one", "other"]
abbrev P__ordered : List Str := ["one", "other"]
theorem sc__ordered : FnScope N__ordered P__ordered (defScope s__ordered) := ⟨rfl, rfl, rfl, by decide +kernel, rfl, by decide +kernel, by decide +kernel⟩
abbrev s_marked_address : Stmt := topS 25
abbrev N_marked_address : List Str := ["row", "column", "sheet"]
abbrev P_marked_address : List Str := ["row", "column", "sheet"]
theorem sc_marked_address : FnScope N_marked_address P_marked_address (defScope s_marked_address) := ⟨rfl, rfl, rfl, by decide +kernel, rfl, by decide +kernel, by decide +kernel⟩
abbrev s_area_between : Stmt := topS 39
abbrev N_area_between : List Str := ["top", "left", "bottom", "right", "sheet", "whole"]
abbrev P_area_between : List Str := ["top", "left", "bottom", "right", "sheet", "whole"]
theorem sc_area_between : FnScope N_area_between P_area_between (defScope s_area_between) := ⟨rfl, rfl, rfl, by decide +kernel, rfl, by decide +kernel, by decide +kernel⟩
abbrev s_Area_init : Stmt := inClass (topS 35) 0
abbrev N_Area_init : List Str := ["self", "first", "last", "whole", "rows", "columns"]
abbrev P_Area_init : List Str := ["self", "first", "last", "whole"]
theorem sc_Area_init : FnScope N_Area_init P_Area_init (defScope s_Area_init) := ⟨rfl, rfl, rfl, by decide +kernel, rfl, by decide +kernel, by decide +kernel⟩
abbrev s_Area___eq__ : Stmt := inClass (topS 35) 1
abbrev N_Area___eq__ : List Str := ["self", "other"]
abbrev P_Area___eq__ : List Str := ["self", "other"]
theorem sc_Area___eq__ : FnScope N_Area___eq__ P_Area___eq__ (defScope s_Area___eq__) := ⟨rfl, rfl, rfl, by decide +kernel, rfl, by decide +kernel, by decide +kernel⟩
abbrev s_Area_has : Stmt := inClass (topS 35) 2
abbrev N_Area_has : List Str := ["self", "address"]
abbrev P_Area_has : List Str := ["self", "address"]
theorem sc_Area_has : FnScope N_Area_has P_Area_has (defScope s_Area_has) := ⟨rfl, rfl, rfl, by decide +kernel, rfl, by decide +kernel, by decide +kernel⟩
abbrev s_Area_common : Stmt := inClass (topS 35) 3
abbrev N_Area_common : List Str := ["self", "other", "top", "bottom", "left", "right", "sheet"]
abbrev P_Area_common : List Str := ["self", "other"]
theorem sc_Area_common : FnScope N_Area_common P_Area_common (defScope s_Area_common) := ⟨rfl, rfl, rfl, by decide +kernel, rfl, by decide +kernel, by decide +kernel⟩
abbrev s_Area_without : Stmt := inClass (topS 35) 4
abbrev N_Area_without : List Str := ["self", "other", "met", "top", "bottom", "left", "right", "parts"]
abbrev P_Area_without : List Str := ["self", "other"]
theorem sc_Area_without : FnScope N_Area_without P_Area_without (defScope s_Area_without) := ⟨rfl, rfl, rfl, by decide +kernel, rfl, by decide +kernel, by decide +kernel⟩
abbrev s_Area_cells : Stmt := inClass (topS 35) 5
abbrev N_Area_cells : List Str := ["self", "row", "column"]
abbrev P_Area_cells : List Str := ["self"]
theorem sc_Area_cells : FnScope N_Area_cells P_Area_cells (defScope s_Area_cells) := ⟨rfl, rfl, rfl, by decide +kernel, rfl, by decide +kernel, by decide +kernel⟩
abbrev s_Area__part : Stmt := inClass (topS 35) 6
abbrev N_Area__part : List Str := ["self", "top", "left", "bottom", "right", "is_whole"]
abbrev P_Area__part : List Str := ["self", "top", "left", "bottom", "right"]
theorem sc_Area__part : FnScope N_Area__part P_Area__part (defScope s_Area__part) := ⟨rfl, rfl, rfl, by decide +kernel, rfl, by decide +kernel, by decide +kernel⟩
inductive Wh where
  | no
  | cols
  | rows
deriving DecidableEq
def whV : Wh → V
  | .no => .non
  | .cols => .str "columns"
  | .rows => .str "rows"
/-- an area: two pairs of row and mark, two of column and mark, whole, sheet -/
structure Ar where
  ro : (Int × Bool) × (Int × Bool)
  co : (Int × Bool) × (Int × Bool)
  wh : Wh
  sh : Option (List Nat)
def ordP (p q : Int × Bool) : (Int × Bool) × (Int × Bool) := if p.1 = q.1 then ((p.1, p.2 || q.2), (p.1, p.2 && q.2)) else if p.1 < q.1 then (p, q) else (q, p)
def Ar.nRo (A : Ar) : (Int × Bool) × (Int × Bool) := if A.wh = .cols then ((1, false), (1000000, false)) else ordP A.ro.1 A.ro.2
def Ar.nCo (A : Ar) : (Int × Bool) × (Int × Bool) := if A.wh = .rows then ((1, false), (18278, false)) else ordP A.co.1 A.co.2
def Ar.norm (A : Ar) : Ar := ⟨A.nRo, A.nCo, A.wh, A.sh⟩
def Ar.ht (A : Ar) : Int := A.ro.2.1 - A.ro.1.1 + 1
def Ar.wd (A : Ar) : Int := A.co.2.1 - A.co.1.1 + 1
def inG (r c : Int × Bool) : Prop := (1 ≤ r.1 ∧ r.1 ≤ 1000000) ∧ 1 ≤ c.1 ∧ c.1 ≤ 18278
/-- corners on the grid -/
structure Ar.On (A : Ar) : Prop where
  a : inG A.ro.1 A.co.1
  b : inG A.ro.2 A.co.2
  so : shOk A.sh
  sg : shGood A.sh = true
/-- normal: first corner first -/
structure Ar.Nm (A : Ar) : Prop where
  on : A.On
  r : A.ro.1.1 ≤ A.ro.2.1
  c : A.co.1.1 ≤ A.co.2.1
  wc : A.wh = .cols → A.ro = ((1, false), (1000000, false))
  wr : A.wh = .rows → A.co = ((1, false), (18278, false))
theorem inG.ok {r c : Int × Bool} (h : inG r c) : gridOk r.1 c.1 = true := by
  unfold gridOk
  rw [decide_eq_true h.1, decide_eq_true h.2]
  rfl
theorem ordP_le (p q : Int × Bool) : (ordP p q).1.1 ≤ (ordP p q).2.1 := by
  unfold ordP
  split
  · exact Int.le_refl _
  · split
    · show p.1 ≤ q.1
      omega
    · show q.1 ≤ p.1
      omega
theorem ordP_of {P : Int → Prop} {p q : Int × Bool} (hp : P p.1) (hq : P q.1) : P (ordP p q).1.1 ∧ P (ordP p q).2.1 := by
  unfold ordP
  split
  · exact ⟨hp, hp⟩
  · split
    · exact ⟨hp, hq⟩
    · exact ⟨hq, hp⟩
theorem Ar.On.norm {A : Ar} (h : A.On) : A.norm.Nm := by
  have hr := ordP_of (P := fun x => 1 ≤ x ∧ x ≤ 1000000) h.a.1 h.b.1
  have hc := ordP_of (P := fun x => 1 ≤ x ∧ x ≤ 18278) h.a.2 h.b.2
  have r1 : (1 ≤ A.nRo.1.1 ∧ A.nRo.1.1 ≤ 1000000) ∧ (1 ≤ A.nRo.2.1 ∧ A.nRo.2.1 ≤ 1000000) ∧ A.nRo.1.1 ≤ A.nRo.2.1 := by
    unfold Ar.nRo
    split
    · decide
    · exact ⟨hr.1, hr.2, ordP_le _ _⟩
  have c1 : (1 ≤ A.nCo.1.1 ∧ A.nCo.1.1 ≤ 18278) ∧ (1 ≤ A.nCo.2.1 ∧ A.nCo.2.1 ≤ 18278) ∧ A.nCo.1.1 ≤ A.nCo.2.1 := by
    unfold Ar.nCo
    split
    · decide
    · exact ⟨hc.1, hc.2, ordP_le _ _⟩
  exact ⟨⟨⟨r1.1, c1.1⟩, ⟨r1.2.1, c1.2.1⟩, h.so, h.sg⟩, r1.2.2, c1.2.2, fun z => if_pos z, fun z => if_pos z⟩
def afl (a1 a2 : Addr) (A : Ar) : List (Str × V) := [("first", .ref a1), ("last", .ref a2), ("whole", whV A.wh), ("sheet", shV A.sh), ("height", .int A.ht), ("width", .int A.wd)]
/-- an Address with a row, a column and their marks -/
def AdrAt (C : Addr) (H : Hp) (a : Addr) (r c : Int × Bool) (sh : Option (List Nat)) : Prop := ∃ d, H a = some (.ins C d (flds r.1 c.1 r.2 c.2 sh))
/-- an Area -/
def AreaAt (CA C : Addr) (H : Hp) (a : Addr) (A : Ar) : Prop := ∃ dx a1 a2, H a = some (.ins CA dx (afl a1 a2 A)) ∧ AdrAt C H a1 A.ro.1 A.co.1 A.sh ∧ AdrAt C H a2 A.ro.2 A.co.2 A.sh
theorem AdrAt.ex {C : Addr} {H H' : Hp} {a : Addr} {r c : Int × Bool} {sh : Option (List Nat)} (h : AdrAt C H a r c sh) (e : Ex H H') : AdrAt C H' a r c sh := let ⟨d, q⟩ := h; ⟨d, e _ _ q⟩
theorem AreaAt.ex {CA C : Addr} {H H' : Hp} {a : Addr} {A : Ar} (h : AreaAt CA C H a A) (e : Ex H H') : AreaAt CA C H' a A := let ⟨dx, a1, a2, h1, h2, h3⟩ := h; ⟨dx, a1, a2, e _ _ h1, h2.ex e, h3.ex e⟩
/-- a pair of a number and a mark -/
def PrAt (H : Hp) (p : Addr) (x : Int × Bool) : Prop := H p = some (.tup [.int x.1, .bl x.2])
def spChk (K : PySem.W.Frag) (C CB : Addr) : Sp := fun vs H Q E => ∃ (v : V) (ty : Value) (b : Bool), vs = [v] ∧ (∀ H', Ex H H' → TyX K H' v ty) ∧ PySem.W.kitOne K ty (.ref C) = some b ∧ (b = true → ∀ H', Same H H' → Q .non H') ∧ (b = false → bad CB "value" H v E)
def meet (a b : Option (List Nat)) : Bool := decide (a = none) || decide (b = none) || alike a b
def spMeet : Sp := fun vs H Q _ => ∃ a b : Option (List Nat), vs = [shV a, shV b] ∧ shOk a ∧ shOk b ∧ ∀ H', Same H H' → Q (.bl (meet a b)) H'
def spOrd : Sp := fun vs H Q _ => ∃ (s t : Addr) (p q : Int × Bool), vs = [.ref s, .ref t] ∧ PrAt H s p ∧ PrAt H t q ∧
  ∀ (u x y : Addr) (H' : Hp), Same H H' → H' u = some (.tup [.ref x, .ref y]) → PrAt H' x (ordP p q).1 → PrAt H' y (ordP p q).2 → Q (.ref u) H'
def spMarked (C : Addr) : Sp := fun vs H Q _ => ∃ (s t : Addr) (r c : Int × Bool) (sh : Option (List Nat)), vs = [.ref s, .ref t, shV sh] ∧ PrAt H s r ∧ PrAt H t c ∧ shOk sh ∧ shGood sh = true ∧ inG r c ∧
  ∀ (a : Addr) (H' : Hp), H a = none → Same H H' → AdrAt C H' a r c sh → Q (.ref a) H'
structure AdR where
  CA : Addr
  f_check_address : Addr
  d_check_address : FuncData
  f_check_area : Addr
  d_check_area : FuncData
  f_may_meet : Addr
  d_may_meet : FuncData
  f__ordered : Addr
  d__ordered : FuncData
  f_marked_address : Addr
  d_marked_address : FuncData
  f_area_between : Addr
  d_area_between : FuncData
  m_init : Addr
  e_init : FuncData
  m_eq : Addr
  e_eq : FuncData
  m_has : Addr
  e_has : FuncData
  m_common : Addr
  e_common : FuncData
  m_without : Addr
  e_without : FuncData
  m_cells : Addr
  e_cells : FuncData
  m_part : Addr
  e_part : FuncData
structure TxtR (K : PySem.W.Frag) (mg : Str → Option Value) (p : AdR) : Prop where
  mg_Area : mg "Area" = some (.ref p.CA)
  n_tuple : mg "tuple" = none
  n_max : mg "max" = none
  n_min : mg "min" = none
  n_range : mg "range" = none
  mg_MOST_CELLS : ∃ t, mg "MOST_CELLS" = some (.int 10000 t)
  cl : Cls K p.CA
  mkA : Mk K p.CA p.m_init
  ha : PySem.W.findIn K (.ref p.CA) "__class__" = some (some (.builtin "object.__class__"))
  hn : PySem.W.specialIn K (.builtin "object.__class__") "__get__" = some (some (.builtin "getset_descriptor.__get__"))
  ht : PySem.W.takesIn K (.builtin "object.__class__") = some true
  hm : PySem.W.mroIn K p.CA (.type "object") = some true
  n_first : NoAttr K p.CA "first"
  n_last : NoAttr K p.CA "last"
  n_whole : NoAttr K p.CA "whole"
  n_sheet : NoAttr K p.CA "sheet"
  n_height : NoAttr K p.CA "height"
  n_width : NoAttr K p.CA "width"
  mg_check_address : mg "check_address" = some (.ref p.f_check_address)
  F_check_address : Fun K "check_address" "check_address" s_check_address p.f_check_address p.d_check_address
  b_check_address : Binds K p.d_check_address P_check_address []
  mg_check_area : mg "check_area" = some (.ref p.f_check_area)
  F_check_area : Fun K "check_area" "check_area" s_check_area p.f_check_area p.d_check_area
  b_check_area : Binds K p.d_check_area P_check_area []
  mg_may_meet : mg "may_meet" = some (.ref p.f_may_meet)
  F_may_meet : Fun K "may_meet" "may_meet" s_may_meet p.f_may_meet p.d_may_meet
  b_may_meet : Binds K p.d_may_meet P_may_meet []
  mg__ordered : mg "_ordered" = some (.ref p.f__ordered)
  F__ordered : Fun K "_ordered" "_ordered" s__ordered p.f__ordered p.d__ordered
  b__ordered : Binds K p.d__ordered P__ordered []
  mg_marked_address : mg "marked_address" = some (.ref p.f_marked_address)
  F_marked_address : Fun K "marked_address" "marked_address" s_marked_address p.f_marked_address p.d_marked_address
  b_marked_address : Binds K p.d_marked_address P_marked_address []
  mg_area_between : mg "area_between" = some (.ref p.f_area_between)
  F_area_between : Fun K "area_between" "area_between" s_area_between p.f_area_between p.d_area_between
  b_area_between : Binds K p.d_area_between P_area_between []
  F_init : Fun K "__init__" "Area.__init__" s_Area_init p.m_init p.e_init
  F_eq : Fun K "__eq__" "Area.__eq__" s_Area___eq__ p.m_eq p.e_eq
  b_eq : Binds K p.e_eq P_Area___eq__ []
  h_eq : Meth K p.CA "__eq__" p.m_eq
  F_has : Fun K "has" "Area.has" s_Area_has p.m_has p.e_has
  b_has : Binds K p.e_has P_Area_has []
  h_has : Meth K p.CA "has" p.m_has
  F_common : Fun K "common" "Area.common" s_Area_common p.m_common p.e_common
  b_common : Binds K p.e_common P_Area_common []
  h_common : Meth K p.CA "common" p.m_common
  F_without : Fun K "without" "Area.without" s_Area_without p.m_without p.e_without
  b_without : Binds K p.e_without P_Area_without []
  h_without : Meth K p.CA "without" p.m_without
  F_cells : Fun K "cells" "Area.cells" s_Area_cells p.m_cells p.e_cells
  b_cells : Binds K p.e_cells P_Area_cells []
  h_cells : Meth K p.CA "cells" p.m_cells
  F_part : Fun K "_part" "Area._part" s_Area__part p.m_part p.e_part
  b_part : Binds K p.e_part P_Area__part []
  h_part : Meth K p.CA "_part" p.m_part
section
variable {P : Program} {w : World} {K : PySem.W.Frag} {mg : Str → Option Value} {base : Heap} {pc : Ads} {pg : AdG} {pa : AdC} {D : Addr} {p : AdR}
theorem area_ty {H : Hp} {a : Addr} {A : Ar} {C : Addr} (T : TxtR K mg p) (h : AreaAt p.CA C H a A) : TyX K H (.ref a) (.ref p.CA) := let ⟨_, _, _, h, _, _⟩ := h; .base (.ins h T.cl T.ha T.hn T.ht T.hm)
theorem ok_check_address (TC : TxtC K mg pc) (TA : TxtA6 K mg pc.S pa) (TR : TxtR K mg p) : FnOk P w K mg base (L2.CX P w) 3 p.f_check_address p.d_check_address P_check_address (spChk K pa.C pc.CB) := by
  refine TR.F_check_address.okX sc_check_address (fun vs H Q E h => ?_) (fun cdv A outer s H vs Q E hr h => ?_)
  · obtain ⟨v, ty, b, rfl, _⟩ := h
    rfl
  · obtain ⟨v, ty, b, rfl, kn, hk, h1, h0⟩ := h
    refine ⟨_, (pss_one (ps_if (pt_not (pt_val (pe_callB (id := "isinstance") call_isi (by rfl) TC.n_isinstance (by decide +kernel) (pa_cons (pv 0) (pa_cons (pe_glob (v := .ref pa.C) (by rfl) TA.mg_Address rfl) pa_nil))))) (pss_one (ps_raise rfl (takes_of rfl rfl rfl rfl) (pmk_R (n := 1) TC.BadValue.ec (ok_BadValue_init TC.BadValue.F TC.BadValue.ec.ox TC.BadValue.no) (hr.mono (by decide)) (by rfl) TC.BadValue.gC (kp_BadValue_init TC.BadValue.F) hx0 (pa_cons (pv 0) pa_nil)))) pss_nil)), ?_⟩
    have ei : Ev (tCB (rIsi K) (tCons (tVar 0) (tCons (tC (.ref pa.C)) tNil))) [some v] H (.bl b) := fun H1 e Q q => ⟨_, rfl, v, .ref pa.C, ty, .ref pa.C, b, rfl, .own pa.C, kn H1 e, hk, q H1 (Ex.refl H1)⟩
    refine s_if (et_not (et_B ei)) (fun hb H1 e1 => ?_) (fun hb H1 e1 => h1 (by simpa using hb) H1 e1)
    exact ⟨_, rfl, rfl, rfl, by decide, rr_e1 (Q := E) fun d H' nd sm hd => ((h0 (by simpa using hb)).at e1) d H' sm nd hd⟩
theorem ok_check_area (TC : TxtC K mg pc) (TR : TxtR K mg p) : FnOk P w K mg base (L2.CX P w) 3 p.f_check_area p.d_check_area P_check_area (spChk K p.CA pc.CB) := by
  refine TR.F_check_area.okX sc_check_area (fun vs H Q E h => ?_) (fun cdv A outer s H vs Q E hr h => ?_)
  · obtain ⟨v, ty, b, rfl, _⟩ := h
    rfl
  · obtain ⟨v, ty, b, rfl, kn, hk, h1, h0⟩ := h
    refine ⟨_, (pss_one (ps_if (pt_not (pt_val (pe_callB (id := "isinstance") call_isi (by rfl) TC.n_isinstance (by decide +kernel) (pa_cons (pv 0) (pa_cons (pe_glob (v := .ref p.CA) (by rfl) TR.mg_Area rfl) pa_nil))))) (pss_one (ps_raise rfl (takes_of rfl rfl rfl rfl) (pmk_R (n := 1) TC.BadValue.ec (ok_BadValue_init TC.BadValue.F TC.BadValue.ec.ox TC.BadValue.no) (hr.mono (by decide)) (by rfl) TC.BadValue.gC (kp_BadValue_init TC.BadValue.F) hx0 (pa_cons (pv 0) pa_nil)))) pss_nil)), ?_⟩
    have ei : Ev (tCB (rIsi K) (tCons (tVar 0) (tCons (tC (.ref p.CA)) tNil))) [some v] H (.bl b) := fun H1 e Q q => ⟨_, rfl, v, .ref p.CA, ty, .ref p.CA, b, rfl, .own p.CA, kn H1 e, hk, q H1 (Ex.refl H1)⟩
    refine s_if (et_not (et_B ei)) (fun hb H1 e1 => ?_) (fun hb H1 e1 => h1 (by simpa using hb) H1 e1)
    exact ⟨_, rfl, rfl, rfl, by decide, rr_e1 (Q := E) fun d H' nd sm hd => ((h0 (by simpa using hb)).at e1) d H' sm nd hd⟩
theorem ok_may_meet (TC : TxtC K mg pc) (TG : TxtG K mg pg) (TR : TxtR K mg p) : FnOk P w K mg base CX0 6 p.f_may_meet p.d_may_meet P_may_meet spMeet := by
  have G_alike_sheets : FnOk P w K mg base CX0 5 pg.f_alike_sheets pg.d_alike_sheets P_alike_sheets spAlike := ok_alike_sheets TC TG
  refine TR.F_may_meet.ok sc_may_meet (fun vs H Q E h => ?_) (fun cdv A outer s H vs Q E hr h => ?_)
  · obtain ⟨a, b, rfl, _⟩ := h
    rfl
  · obtain ⟨a, b, rfl, oa, ob, k⟩ := h
    refine ⟨_, (pss_one (ps_ret (pe_or (pe_cmpR op_isN1 (pv 0) pe_non (nomark _)) (pe_or (pe_cmpR op_isN1 (pv 1) pe_non (nomark _)) (pe_one (pe_call G_alike_sheets (hr.mono (by decide)) (by rfl) TG.mg_alike_sheets TG.F_alike_sheets.kp TG.b_alike_sheets .nil pass0 (pa_cons (pv 0) (pa_cons (pv 1) pa_nil)))))))), ?_⟩
    have en : ∀ {H1 : Hp} {i : Nat} {x : Option (List Nat)}, [some (shV a), some (shV b)][i]? = some (some (shV x)) → Ev (tOp rIsN (tVar i) (tC .non)) [some (shV a), some (shV b)] H1 (.bl (decide (x = none))) := fun {H1 i x} hx => ev_op (ev_var hx) ev_c fun H2 _ Q q => by
      have z : decide (shV x = V.non) = decide (x = none) := by cases x <;> rfl
      exact ⟨rfl, by rw [z]; exact q H2 (Ex.refl H2)⟩
    have el : Ev (tCall spAlike [] E0 (tCons (tVar 0) (tCons (tVar 1) tNil))) [some (shV a), some (shV b)] H (.bl (alike a b)) :=
      ev_call (ea_cons (ev_var rfl) (ea_cons (ev_var rfl) ea_nil)) fun H2 e Q q E => ⟨a, b, rfl, oa, ob, fun H' s => q H' s⟩
    refine (ev_orV (en (x := a) rfl) fun _ => ev_orV (en (x := b) rfl) fun _ => el) H (Ex.refl H) _ fun H3 e3 => ?_
    have g := k H3 e3
    unfold meet at g
    rw [Bool.or_assoc] at g
    exact g
theorem ok_ordered (TR : TxtR K mg p) : FnOk P w K mg base CX0 1 p.f__ordered p.d__ordered P__ordered spOrd := by
  refine TR.F__ordered.ok sc__ordered (fun vs H Q E h => ?_) (fun cdv A outer s H vs Q E hr h => ?_)
  · obtain ⟨s, t, p, q, rfl, _⟩ := h
    rfl
  · obtain ⟨s, t, x, y, rfl, hs, ht, k⟩ := h
    refine ⟨_, (pss_cons (ps_if (pt_cmpR op_eq (pe_ix ix_tup (pv 0) pe_int (fun _ _ => rfl)) (pe_ix ix_tup (pv 1) pe_int (fun _ _ => rfl)) (nomark _)) (pss_one (ps_ret (pe_tup (pa_cons (pe_tup (pa_cons (pe_ix ix_tup (pv 0) pe_int (fun _ _ => rfl)) (pa_cons (pe_or (pe_ix ix_tup (pv 0) pe_int (fun _ _ => rfl)) (pe_one (pe_ix ix_tup (pv 1) pe_int (fun _ _ => rfl)))) pa_nil))) (pa_cons (pe_tup (pa_cons (pe_ix ix_tup (pv 0) pe_int (fun _ _ => rfl)) (pa_cons (pe_and (pe_ix ix_tup (pv 0) pe_int (fun _ _ => rfl)) (pe_one (pe_ix ix_tup (pv 1) pe_int (fun _ _ => rfl)))) pa_nil))) pa_nil))))) pss_nil)
      (pss_one (ps_ret (pe_ifExp (pt_cmpR op_lt (pe_ix ix_tup (pv 0) pe_int (fun _ _ => rfl)) (pe_ix ix_tup (pv 1) pe_int (fun _ _ => rfl)) (nomark _)) (pe_tup (pa_cons (pv 0) (pa_cons (pv 1) pa_nil))) (pe_tup (pa_cons (pv 1) (pa_cons (pv 0) pa_nil))))))), ?_⟩
    have fs : ∀ {H' : Hp} {i : Int} {v : V}, Ex H H' → atI [V.int x.1, V.bl x.2] i = some v → Ev (tOp (rIxT K) (tVar 0) (tC (.int i))) [some (.ref s), some (.ref t)] H' v := fun e h => ev_op (ev_var rfl) ev_c (rv_ixT (st_of (e _ _ hs)) h)
    have ft : ∀ {H' : Hp} {i : Int} {v : V}, Ex H H' → atI [V.int y.1, V.bl y.2] i = some v → Ev (tOp (rIxT K) (tVar 1) (tC (.int i))) [some (.ref s), some (.ref t)] H' v := fun e h => ev_op (ev_var rfl) ev_c (rv_ixT (st_of (e _ _ ht)) h)
    unfold ordP at k
    have ec : EvT (tTest (tOp rEq (tOp (rIxT K) (tVar 0) (tC (.int 0))) (tOp (rIxT K) (tVar 1) (tC (.int 0))))) [some (.ref s), some (.ref t)] H (decide (V.int x.1 = V.int y.1)) := et_test (ev_op (fs (Ex.refl H) rfl) (ft (Ex.refl H) rfl) (rv_eq rfl))
    refine q_when ec (fun hb H1 e1 => ?_) (fun hb H1 e1 => ?_)
    · have he : x.1 = y.1 := V.int.inj (of_decide_eq_true hb)
      rw [if_pos he] at k
      refine q_retQ (evq_tup2 (evq_new (eu_tup (vs := [.int x.1, .bl (x.2 || y.2)]) (ea_cons (fs e1 rfl) (ea_cons (ev_orV (fs e1 rfl) fun _ => ft e1 rfl) ea_nil)) (by show 2 ≤ 100000; decide))) (evq_new (eu_tup (vs := [.int x.1, .bl (x.2 && y.2)]) (ea_cons (fs e1 rfl) (ea_cons (ev_andV (fs e1 rfl) fun _ => ft e1 rfl) ea_nil)) (by show 2 ≤ 100000; decide))) mon_tup mon_tup) fun v H' e ⟨u, a, b, hv, hu, ⟨a', ha, ha2⟩, ⟨b', hb, hb2⟩⟩ => ?_
      subst hv ha hb
      exact k u a' b' H' (e1.trans e) hu ha2 hb2
    · have he : ¬ x.1 = y.1 := fun z => of_decide_eq_false hb (by rw [z])
      rw [if_neg he] at k
      by_cases hl : x.1 < y.1
      · rw [if_pos hl] at k
        refine q_retQ (evq_if (et_is (et_test (ev_op (fs e1 rfl) (ft e1 rfl) rv_I0)) (decide_eq_true hl)) (fun _ => evq_new (eu_tup (vs := [.ref s, .ref t]) (ea_cons (ev_var rfl) (ea_cons (ev_var rfl) ea_nil)) (by show 2 ≤ 100000; decide))) (fun z => nomatch z)) fun v H' e ⟨u, hv, hu⟩ => ?_
        subst hv
        exact k u s t H' (e1.trans e) hu ((e1.trans e) _ _ hs) ((e1.trans e) _ _ ht)
      · rw [if_neg hl] at k
        refine q_retQ (evq_if (et_is (et_test (ev_op (fs e1 rfl) (ft e1 rfl) rv_I0)) (decide_eq_false hl)) (fun z => nomatch z) (fun _ => evq_new (eu_tup (vs := [.ref t, .ref s]) (ea_cons (ev_var rfl) (ea_cons (ev_var rfl) ea_nil)) (by show 2 ≤ 100000; decide)))) fun v H' e ⟨u, hv, hu⟩ => ?_
        subst hv
        exact k u t s H' (e1.trans e) hu ((e1.trans e) _ _ ht) ((e1.trans e) _ _ hs)
end
end K18

set_option Elab.async false
set_option linter.all false
set_option maxRecDepth 100000
set_option maxHeartbeats 4000000
namespace K18
open PySem PySem.Spec PyProof.Rows L2 Pen EV2 Evl TX LamX
/-- two pairs in a tuple -/
def PPR (pp : (Int × Bool) × (Int × Bool)) : V → Hp → Prop := fun v H' => ∃ u x y, v = .ref u ∧ H' u = some (.tup [.ref x, .ref y]) ∧ PrAt H' x pp.1 ∧ PrAt H' y pp.2
theorem mon_pp {pp : (Int × Bool) × (Int × Bool)} : MonR (PPR pp) := fun v H H' e ⟨u, x, y, h0, h1, h2, h3⟩ => ⟨u, x, y, h0, e _ _ h1, e _ _ h2, e _ _ h3⟩
theorem PPR.upd {pp : (Int × Bool) × (Int × Bool)} {v : V} {H : Hp} {a C dx : Addr} {fs : List (Str × V)} {o : HO} (h : PPR pp v H) (ha : H a = some (.ins C dx fs)) : PPR pp v (upd H a o) := by
  obtain ⟨u, x, y, h0, h1, h2, h3⟩ := h
  refine ⟨u, x, y, h0, ?_, ?_, ?_⟩
  · rw [upd_ne (ne_of h1 ha (by intro z; cases z))]; exact h1
  · unfold PrAt; rw [upd_ne (ne_of h2 ha (by intro z; cases z))]; exact h2
  · unfold PrAt; rw [upd_ne (ne_of h3 ha (by intro z; cases z))]; exact h3
theorem AdrAt.upd {C CA a x dx : Addr} {H : Hp} {r c : Int × Bool} {sh : Option (List Nat)} {fs : List (Str × V)} {o : HO} (h : AdrAt C H a r c sh) (hx : H x = some (.ins CA dx fs)) (n : CA ≠ C) : AdrAt C (upd H x o) a r c sh := by
  obtain ⟨d, q⟩ := h
  refine ⟨d, ?_⟩
  rw [upd_ne (ne_of q hx (by intro z; cases z; exact n rfl))]
  exact q
theorem ev_fldG {K : PySem.W.Frag} {te : TE} {σ : L2.St} {H : Hp} {a C dx : Addr} {fs : List (Str × V)} {f : Str} {v : V} (he : Ev te σ H (.ref a)) (h : H a = some (.ins C dx fs)) (cl : Cls K C) (n : NoAttr K C f) (hl : fs.lookup f = some v) : Ev (tFld K te f) σ H v := fun H1 e Q q =>
  he H1 e _ fun H2 e2 => ⟨a, C, dx, _, v, rfl, (e.trans e2) _ _ h, cl, n, hl, q H2 e2⟩
theorem sib_up {x : Addr} {H H' : Hp} {o : HO} (h : Sib x H H') : Sib x H (upd H' x o) := fun b o' n hb => by
  rw [upd_ne n]
  exact h b o' n hb
theorem sib_ext {x : Addr} {H H' H2 : Hp} (h : Sib x H H') (e : Ex H' H2) : Sib x H H2 := fun b o n hb => e _ _ (h b o n hb)
/-- an Address by a relation -/
def AdrR (C : Addr) (r c : Int × Bool) (sh : Option (List Nat)) : V → Hp → Prop := fun v H' => ∃ y, v = .ref y ∧ AdrAt C H' y r c sh
/-- a value that is no whole: data unlike both words -/
def WhBad (K : PySem.W.Frag) (H : Hp) (w : V) : Prop := w ≠ .non ∧ ∃ d, (∀ H', Ex H H' → Dp K H' w d) ∧ SeqAt.shaped d = true ∧ PyData.eqv (.str "columns") d = false ∧ PyData.eqv (.str "rows") d = false
def spAInit (K : PySem.W.Frag) (C CA CB : Addr) : Sp := fun vs H Q E => ∃ (x dx a1 : Addr) (v2 w : V) (r1 c1 : Int × Bool) (s1 : Option (List Nat)), vs = [.ref x, .ref a1, v2, w] ∧ H x = some (.ins CA dx []) ∧ AdrAt C H a1 r1 c1 s1 ∧ inG r1 c1 ∧ shOk s1 ∧ shGood s1 = true ∧
  ((∃ ty : Value, (∀ H', Ex H H' → TyX K H' v2 ty) ∧ PySem.W.kitOne K ty (.ref C) = some false ∧ bad CB "value" H v2 E) ∨
   (∃ (a2 : Addr) (r2 c2 : Int × Bool) (s2 : Option (List Nat)), v2 = .ref a2 ∧ AdrAt C H a2 r2 c2 s2 ∧ inG r2 c2 ∧ shOk s2 ∧
     ((s2 ≠ none ∧ alike s1 s2 = false ∧ bad CB "value" H v2 E) ∨ ((s2 = none ∨ alike s1 s2 = true) ∧ ((WhBad K H w ∧ bad CB "value" H w E) ∨ (∃ wh : Wh, w = whV wh ∧
       ∀ (H' : Hp) (y1 y2 : Addr), Sib x H H' → H' x = some (.ins CA dx (afl y1 y2 (Ar.norm ⟨(r1, r2), (c1, c2), wh, s1⟩))) → AdrAt C H' y1 (Ar.norm ⟨(r1, r2), (c1, c2), wh, s1⟩).ro.1 (Ar.norm ⟨(r1, r2), (c1, c2), wh, s1⟩).co.1 s1 → AdrAt C H' y2 (Ar.norm ⟨(r1, r2), (c1, c2), wh, s1⟩).ro.2 (Ar.norm ⟨(r1, r2), (c1, c2), wh, s1⟩).co.2 s1 → Q .non H'))))))
/-- what the classes and defaults must say beside -/
structure TxtK (K : PySem.W.Frag) (pa : AdC) (p : AdR) (mv : List Value) : Prop where
  nCA : p.CA ≠ pa.C
  hsA : PySem.W.findIn K (.ref pa.C) "__eq__" = some (some (.ref pa.f_eq))
  hfA : PySem.W.isFn K (.ref pa.f_eq) = true
  b_eqA : Binds K pa.d_eq P_Address___eq__ []
  hsR : PySem.W.findIn K (.ref p.CA) "__eq__" = some (some (.ref p.m_eq))
  hfR : PySem.W.isFn K (.ref p.m_eq) = true
  kb1 : KBn K pa.d_init P_Address_init 3 ["sheet"] (fun us ws => us ++ mv ++ ws) (fun vs zs => vs ++ [.bl false, .bl false] ++ zs)
theorem kb1_of {K : PySem.W.Frag} {f : Addr} {fd : FuncData} (F : FunD K "__init__" "Address.__init__" (defArgs s_Address_init) (defBody s_Address_init) (defScope s_Address_init) [] kwA f fd) :
    ∃ mv : List Value, KBn K fd P_Address_init 3 ["sheet"] (fun us ws => us ++ mv ++ ws) (fun vs zs => vs ++ [.bl false, .bl false] ++ zs) :=
  F.kbinds0 3 ["sheet"] [("fixed_row", .bl false), ("fixed_column", .bl false)] (fun us mv ws => us ++ mv ++ ws) (by simp) (fun q h => by simp [kwA] at h ⊢; rcases h with h | h <;> simp [h]) (fun r1 r2 r3 => (r1.append r2).append r3) (fun D doc pm an cdv ct us mv ws l1 l2 l3 => match us, mv, ws, l1, l2, l3 with
    | [_, _, _], [_, _], [_], _, _, _ => ⟨_, _, _, _, _, _, rfl, rfl, _, _, _, _, _, _, rfl, rfl, rfl⟩)
theorem kb_Area {K : PySem.W.Frag} {f : Addr} {fd : FuncData} (F : Fun K "__init__" "Area.__init__" s_Area_init f fd) : KBn K fd P_Area_init 3 ["whole"] (fun us ws => us ++ ws) (fun vs zs => vs ++ zs) :=
  kbn_of F (fun _ _ _ _ _ _ us ws l1 l2 => match us, ws, l1, l2 with | [_, _, _], [_], _, _ => rfl) fun r q => r.append q
section
variable {P : Program} {w : World} {K : PySem.W.Frag} {mg : Str → Option Value} {base : Heap} {pc : Ads} {pg : AdG} {pa : AdC} {D : Addr} {p : AdR} {mv : List Value}
theorem ok_marked_address (TC : TxtC K mg pc) (TG : TxtG K mg pg) (TA : TxtA6 K mg pc.S pa) (Z : TxtB K mg pa D) (TR : TxtR K mg p) : FnOk P w K mg base (L2.CX P w) 6 p.f_marked_address p.d_marked_address P_marked_address (spMarked pa.C) := by
  refine TR.F_marked_address.okX sc_marked_address (fun vs H Q E h => ?_) (fun cdv A outer s H vs Q E hr h => ?_)
  · obtain ⟨s, t, r, c, sh, rfl, _⟩ := h
    rfl
  · obtain ⟨s, t, r, c, sh, rfl, hs, ht, so, sg2, g, k⟩ := h
    refine ⟨_, (pss_one (ps_ret (pe_makeK (n := 2) Z.mkA (ok_Address_init TC TG TA) (hr.mono (by decide)) (by rfl) TA.mg_Address (kb_Address TA.F_init) (passes_call (takes_of rfl rfl rfl rfl) fun _ _ _ _ h => h) (pa_cons (pe_ix ix_tup (pv 0) pe_int (fun _ _ => rfl)) (pa_cons (pe_ix ix_tup (pv 1) pe_int (fun _ _ => rfl)) pa_nil)) (pk_cons (pe_ix ix_tup (pv 0) pe_int (fun _ _ => rfl)) (pk_cons (pe_ix ix_tup (pv 1) pe_int (fun _ _ => rfl)) (pk_cons (pv 2) pk_nil)))))), ?_⟩
    have fs : ∀ {i : Int} {v : V}, atI [V.int r.1, V.bl r.2] i = some v → Ev (tOp (rIxT K) (tVar 0) (tC (.int i))) [some (.ref s), some (.ref t), some (shV sh)] H v := fun h => ev_op (ev_var rfl) ev_c (rv_ixT (st_of hs) h)
    have ft : ∀ {i : Int} {v : V}, atI [V.int c.1, V.bl c.2] i = some v → Ev (tOp (rIxT K) (tVar 1) (tC (.int i))) [some (.ref s), some (.ref t), some (shV sh)] H v := fun h => ev_op (ev_var rfl) ev_c (rv_ixT (st_of ht) h)
    exact en_make (ea_cons (fs rfl) (ea_cons (ft rfl) ea_nil)) (ea_cons (fs rfl) (ea_cons (ft rfl) (ea_cons (ev_var rfl) ea_nil))) so sg2 g.ok H (Ex.refl H) _ fun x dx H2 nx e2 h2 => k x H2 nx e2 ⟨dx, h2⟩
theorem ok_Area_init (TC : TxtC K mg pc) (TG : TxtG K mg pg) (TA : TxtA6 K mg pc.S pa) (Z : TxtB K mg pa D) (TR : TxtR K mg p) (MK : TxtK K pa p mv) : FnOk P w K mg base (L2.CX P w) 8 p.m_init p.e_init P_Area_init (spAInit K pa.C p.CA pc.CB) := by
  have G_check_address : FnOk P w K mg base (L2.CX P w) 3 p.f_check_address p.d_check_address P_check_address (spChk K pa.C pc.CB) := ok_check_address TC TA TR
  have G_alike_sheets : FnOk P w K mg base CX0 5 pg.f_alike_sheets pg.d_alike_sheets P_alike_sheets spAlike := ok_alike_sheets TC TG
  have G__ordered : FnOk P w K mg base CX0 1 p.f__ordered p.d__ordered P__ordered spOrd := ok_ordered TR
  have G_marked_address : FnOk P w K mg base (L2.CX P w) 6 p.f_marked_address p.d_marked_address P_marked_address (spMarked pa.C) := ok_marked_address TC TG TA Z TR
  obtain ⟨tR, hROW⟩ := TG.mg_ROWS
  obtain ⟨tK, hCOL⟩ := TC.mg_COLUMNS
  refine TR.F_init.okX sc_Area_init (fun vs H Q E h => ?_) (fun cdv A outer s H vs Q E hr h => ?_)
  · obtain ⟨x, dx, a1, v2, w, r1, c1, s1, rfl, _⟩ := h
    rfl
  · obtain ⟨x, dx, a1, v2, w, r1, c1, s1, rfl, hx, h1, g1, so1, sg1, h⟩ := h
    refine ⟨_, (pss_cons (ps_expr (pe_call G_check_address (hr.mono (by decide)) (by rfl) TR.mg_check_address TR.F_check_address.kp TR.b_check_address .nil (passes_call (takes_of rfl rfl rfl rfl) fun _ _ _ _ h => h) (pa_cons (pv 1) pa_nil)))
      (pss_cons (ps_expr (pe_call G_check_address (hr.mono (by decide)) (by rfl) TR.mg_check_address TR.F_check_address.kp TR.b_check_address .nil (passes_call (takes_of rfl rfl rfl rfl) fun _ _ _ _ h => h) (pa_cons (pv 2) pa_nil)))
      (pss_cons (ps_if (PW.pt (pw_and (pt_cmpR op_notN1 (pe_fld (pv 2) rfl) pe_non (nomark _)) (pw_and1 (pt_not (pt_val (pe_call G_alike_sheets (hr.mono (by decide)) (by rfl) TG.mg_alike_sheets TG.F_alike_sheets.kp TG.b_alike_sheets .nil pass0 (pa_cons (pe_fld (pv 1) rfl) (pa_cons (pe_fld (pv 2) rfl) pa_nil)))))))) (pss_one (ps_raise rfl (takes_of rfl rfl rfl rfl) (pmk_R (n := 1) TC.BadValue.ec (ok_BadValue_init TC.BadValue.F TC.BadValue.ec.ox TC.BadValue.no) (hr.mono (by decide)) (by rfl) TC.BadValue.gC (kp_BadValue_init TC.BadValue.F) hx0 (pa_cons (pv 2) pa_nil)))) pss_nil)
      (pss_cons (ps_if (PW.pt (pw_and (pt_cmpR op_notN1 (pv 3) pe_non (nomark _)) (pw_and1 (pt_cmpR (op_notInDT (units65 hr)) (pv 3) (pe_tup (pa_cons pe_str (pa_cons pe_str pa_nil))) rfl)))) (pss_one (ps_raise rfl (takes_of rfl rfl rfl rfl) (pmk_R (n := 1) TC.BadValue.ec (ok_BadValue_init TC.BadValue.F TC.BadValue.ec.ox TC.BadValue.no) (hr.mono (by decide)) (by rfl) TC.BadValue.gC (kp_BadValue_init TC.BadValue.F) hx0 (pa_cons (pv 3) pa_nil)))) pss_nil)
      (pss_cons (ps_set (i := 4) sc_Area_init.nd rfl (Or.inl rfl) (pe_call G__ordered (hr.mono (by decide)) (by rfl) TR.mg__ordered TR.F__ordered.kp TR.b__ordered .nil pass0 (pa_cons (pe_tup (pa_cons (pe_fld (pv 1) rfl) (pa_cons (pe_fld (pv 1) rfl) pa_nil))) (pa_cons (pe_tup (pa_cons (pe_fld (pv 2) rfl) (pa_cons (pe_fld (pv 2) rfl) pa_nil))) pa_nil))))
      (pss_cons (ps_set (i := 5) sc_Area_init.nd rfl (Or.inl rfl) (pe_call G__ordered (hr.mono (by decide)) (by rfl) TR.mg__ordered TR.F__ordered.kp TR.b__ordered .nil pass0 (pa_cons (pe_tup (pa_cons (pe_fld (pv 1) rfl) (pa_cons (pe_fld (pv 1) rfl) pa_nil))) (pa_cons (pe_tup (pa_cons (pe_fld (pv 2) rfl) (pa_cons (pe_fld (pv 2) rfl) pa_nil))) pa_nil))))
      (pss_cons (ps_if (pt_cmpR op_eq (pv 3) pe_str (nomark _)) (pss_one (ps_set (i := 4) sc_Area_init.nd rfl (Or.inl rfl) (pe_tup (pa_cons (pe_tup (pa_cons pe_int (pa_cons pe_bl pa_nil))) (pa_cons (pe_tup (pa_cons (pe_glob (v := .int 1000000) (by rfl) hROW ⟨_, rfl⟩) (pa_cons pe_bl pa_nil))) pa_nil))))) pss_nil)
      (pss_cons (ps_if (pt_cmpR op_eq (pv 3) pe_str (nomark _)) (pss_one (ps_set (i := 5) sc_Area_init.nd rfl (Or.inl rfl) (pe_tup (pa_cons (pe_tup (pa_cons pe_int (pa_cons pe_bl pa_nil))) (pa_cons (pe_tup (pa_cons (pe_glob (v := .int 18278) (by rfl) hCOL ⟨_, rfl⟩) (pa_cons pe_bl pa_nil))) pa_nil))))) pss_nil)
      (pss_cons (ps_fld (pv 0) (pe_call G_marked_address (hr.mono (by decide)) (by rfl) TR.mg_marked_address TR.F_marked_address.kp TR.b_marked_address .nil (passes_call (takes_of rfl rfl rfl rfl) fun _ _ _ _ h => h) (pa_cons (pe_ix ix_tup (pv 4) pe_int (fun _ _ => rfl)) (pa_cons (pe_ix ix_tup (pv 5) pe_int (fun _ _ => rfl)) (pa_cons (pe_fld (pv 1) rfl) pa_nil)))) rfl)
      (pss_cons (ps_fld (pv 0) (pe_call G_marked_address (hr.mono (by decide)) (by rfl) TR.mg_marked_address TR.F_marked_address.kp TR.b_marked_address .nil (passes_call (takes_of rfl rfl rfl rfl) fun _ _ _ _ h => h) (pa_cons (pe_ix ix_tup (pv 4) pe_int (fun _ _ => rfl)) (pa_cons (pe_ix ix_tup (pv 5) pe_int (fun _ _ => rfl)) (pa_cons (pe_fld (pv 1) rfl) pa_nil)))) rfl)
      (pss_cons (ps_fld (pv 0) (pv 3) rfl)
      (pss_cons (ps_fld (pv 0) (pe_fld (pv 1) rfl) rfl)
      (pss_cons (ps_fld (pv 0) (pe_op op_add (pe_op op_sub (pe_fld (pe_fld (pv 0) rfl) rfl) (pe_fld (pe_fld (pv 0) rfl) rfl)) pe_int) rfl)
      (pss_one (ps_fld (pv 0) (pe_op op_add (pe_op op_sub (pe_fld (pe_fld (pv 0) rfl) rfl) (pe_fld (pe_fld (pv 0) rfl) rfl)) pe_int) rfl))))))))))))))), ?_⟩
    have me : PySem.W.kitOne K (.ref pa.C) (.ref pa.C) = some true := by
      unfold PySem.W.kitOne
      rw [if_pos (by simp)]
    have okA : ∀ {i : Nat} {a : Addr} {r c : Int × Bool} {sh : Option (List Nat)} {H' : Hp} {σ : L2.St}, σ[i]? = some (some (.ref a)) → AdrAt pa.C H' a r c sh → Ev (tCall (spChk K pa.C pc.CB) [] E (tCons (tVar i) tNil)) σ H' .non := fun {i a r c sh H' σ} hi ha H1 e Q q =>
      ⟨_, hi, .ref a, .ref pa.C, true, rfl, fun H2 e2 => let ⟨_, z⟩ := (ha.ex e).ex e2; adr_ty TA Z z, me, fun _ H' s => q H' s, fun z => nomatch z⟩
    refine q_drop (okA rfl h1) fun H1 e1 => ?_
    rcases h with ⟨ty, kn, hk, hb⟩ | ⟨a2, r2, c2, s2, rfl, h2, g2, so2, h⟩
    · exact ⟨_, rfl, v2, ty, false, rfl, fun H' e => kn H' (e1.trans e), hk, (fun z => nomatch z), fun _ => hb.at e1⟩
    refine q_drop (okA rfl (h2.ex e1)) fun H2 e2 => ?_
    have e12 := e1.trans e2
    have h12 := h1.ex e12
    have h22 := h2.ex e12
    have fa : ∀ {i : Nat} {a : Addr} {r c : Int × Bool} {sh : Option (List Nat)} {H' : Hp} {f : Str} {v : V} {σ : L2.St}, σ[i]? = some (some (.ref a)) → AdrAt pa.C H' a r c sh → NoAttr K pa.C f → (flds r.1 c.1 r.2 c.2 sh).lookup f = some v → Ev (tFld K (tVar i) f) σ H' v := fun hi ha n hl => let ⟨_, z⟩ := ha; ev_fld (ev_var hi) z TA.cl n hl
    have cond : EvT (tAnd (tTest (tOp rNotN (tFld K (tVar 2) "sheet") (tC .non))) (tNot (tB (tCall spAlike [] E0 (tCons (tFld K (tVar 1) "sheet") (tCons (tFld K (tVar 2) "sheet") tNil)))))) [some (.ref x), some (.ref a1), some (.ref a2), some w, none, none] H2 (!decide (s2 = none) && !alike s1 s2) := by
      have z : decide (shV s2 = V.non) = decide (s2 = none) := by cases s2 <;> rfl
      refine et_and (et_test (ev_op (fa rfl h22 TA.n_sheet rfl) ev_c fun H3 _ Q q => ⟨rfl, by rw [z]; exact q H3 (Ex.refl H3)⟩)) fun _ => et_not (et_B ?_)
      exact ev_call (ea_cons (fa rfl h12 TA.n_sheet rfl) (ea_cons (fa rfl h22 TA.n_sheet rfl) ea_nil)) fun H3 e Q q E => ⟨s1, s2, rfl, so1, so2, fun H' s => q H' s⟩
    rcases h with ⟨n2, al, hb⟩ | ⟨al, h⟩
    · refine q_when (b := true) (et_is cond (by rw [decide_eq_false n2, al]; rfl)) (fun _ H3 e3 => ?_) (fun z => nomatch z)
      exact ⟨_, rfl, rfl, rfl, by decide, rr_e1 (Q := E) fun d H' nd sm hd => (hb.at (e12.trans e3)) d H' sm nd hd⟩
    refine q_when (b := false) (et_is cond (by rcases al with rfl | al; rfl; rw [al]; simp)) (fun z => nomatch z) fun _ H3 e3 => ?_
    have e13 := e12.trans e3
    have eu : EvU (tTup (tCons (tC (.str "columns")) (tCons (tC (.str "rows")) tNil))) [some (.ref x), some (.ref a1), some (.ref a2), some w, none, none] H3 [.str "columns", .str "rows"] := eu_tup (ea_cons ev_c (ea_cons ev_c ea_nil)) (by show 2 ≤ 100000; decide)
    have cond2 : ∀ {d : PyData}, (∀ H', Ex H3 H' → Dp K H' w d) → SeqAt.shaped d = true → EvT (tAnd (tTest (tOp rNotN (tVar 3) (tC .non))) (tTest (tOp (rNotInDT K) (tVar 3) (tTup (tCons (tC (.str "columns")) (tCons (tC (.str "rows")) tNil)))))) [some (.ref x), some (.ref a1), some (.ref a2), some w, none, none] H3 (!decide (w = .non) && !([PyData.str "columns", PyData.str "rows"].any fun z => PyData.eqv z d)) := fun {d} hd sd => by
      refine et_and (et_test (ev_op (ev_var rfl) ev_c fun H4 _ Q q => ⟨rfl, q H4 (Ex.refl H4)⟩)) fun _ => et_test (ev_opV (ev_var rfl) eu fun q H4 hq e4 H5 e5 Q k => ⟨d, _, hd H5 (e4.trans e5), .tup (st_of (e5 _ _ hq)) (.cons (.str _) (.cons (.str _) .nil)), sd, by decide +kernel, k H5 (Ex.refl H5)⟩)
    rcases h with ⟨⟨nw, d, hd, sd, d1, d2⟩, hb⟩ | ⟨wh, rfl, k⟩
    · refine q_when (b := true) (et_is (cond2 (fun H' e => hd H' (e13.trans e)) sd) ?_) (fun _ H4 e4 => ?_) (fun z => nomatch z)
      · rw [decide_eq_false nw]
        simp [d1, d2]
      · exact ⟨_, rfl, rfl, rfl, by decide, rr_e1 (Q := E) fun d H' nd sm hd => (hb.at (e13.trans e4)) d H' sm nd hd⟩
    have cw : EvT (tAnd (tTest (tOp rNotN (tVar 3) (tC .non))) (tTest (tOp (rNotInDT K) (tVar 3) (tTup (tCons (tC (.str "columns")) (tCons (tC (.str "rows")) tNil)))))) [some (.ref x), some (.ref a1), some (.ref a2), some (whV wh), none, none] H3 false := by
      cases wh with
      | no => exact et_is (cond2 (d := .none) (fun _ _ => .non) (by decide +kernel)) rfl
      | cols => exact et_is (cond2 (d := .str "columns") (fun _ _ => .str _) (by decide +kernel)) rfl
      | rows => exact et_is (cond2 (d := .str "rows") (fun _ _ => .str _) (by decide +kernel)) rfl
    refine q_when (b := false) cw (fun z => nomatch z) fun _ H4 e4 => ?_
    have e14 := e13.trans e4
    have h14 := h1.ex e14
    have h24 := h2.ex e14
    have pr : ∀ {i : Nat} {a : Addr} {r c : Int × Bool} {sh : Option (List Nat)} {H' : Hp} {f g : Str} {x : Int × Bool} {σ : L2.St}, σ[i]? = some (some (.ref a)) → AdrAt pa.C H' a r c sh → NoAttr K pa.C f → NoAttr K pa.C g → (flds r.1 c.1 r.2 c.2 sh).lookup f = some (.int x.1) → (flds r.1 c.1 r.2 c.2 sh).lookup g = some (.bl x.2) → EvQ (tTup (tCons (tFld K (tVar i) f) (tCons (tFld K (tVar i) g) tNil))) σ H' (TupR [.int x.1, .bl x.2]) := fun hi ha n m hl hm => evq_new (eu_tup (ea_cons (fa hi ha n hl) (ea_cons (fa hi ha m hm) ea_nil)) (by show 2 ≤ 100000; decide))
    have od : ∀ {ta tb : TE} {σ : L2.St} {H' : Hp} {x y : Int × Bool}, EvQ ta σ H' (TupR [.int x.1, .bl x.2]) → EvQ tb σ H' (TupR [.int y.1, .bl y.2]) → EvQ (tCall spOrd [] E0 (tCons ta (tCons tb tNil))) σ H' (PPR (ordP x y)) := fun {ta tb σ H' x y} h1 h2 => evq_call (eaq_two h1 h2 mon_tup) fun vs H2 e2 ⟨a, b, hv, ⟨u, hu, hu2⟩, ⟨v, hv1, hv2⟩⟩ Q q => by
      subst hv hu hv1
      exact ⟨u, v, x, y, rfl, hu2, hv2, fun z x1 y1 H3 e3 h0 h1 h2 => q _ H3 e3 ⟨z, x1, y1, rfl, h0, h1, h2⟩⟩
    refine q_asgQ (od (x := r1) (y := r2) (pr rfl h14 TA.n_row TA.n_fixed_row rfl rfl) (pr rfl h24 TA.n_row TA.n_fixed_row rfl rfl)) fun ro H5 e5 hro => ?_
    have e15 := e14.trans e5
    refine q_asgQ (od (x := c1) (y := c2) (pr rfl (h1.ex e15) TA.n_column TA.n_fixed_column rfl rfl) (pr rfl (h2.ex e15) TA.n_column TA.n_fixed_column rfl rfl)) fun co H6 e6 hco => ?_
    have e16 := e15.trans e6
    have hro6 := mon_pp _ _ _ e6 hro
    have cq : ∀ {i : Nat} {σ : L2.St} {H' : Hp} {z : Str} {u : Wh}, σ[i]? = some (some (whV wh)) → whV u = .str z → EvT (tTest (tOp rEq (tVar i) (tC (.str z)))) σ H' (decide (wh = u)) := fun {i σ H' z u} hi hz => by
      have h1 : decide (whV wh = V.str z) = decide (wh = u) := by
        rw [← hz]
        cases wh <;> cases u <;> first | rfl | decide +kernel
      rw [← h1]
      exact et_test (ev_op (ev_var hi) ev_c (rv_eq (by cases wh <;> rfl)))
    have pc2 : ∀ {σ : L2.St} {H' : Hp} {a b : Int} {x y : Bool}, EvQ (tTup (tCons (tTup (tCons (tC (.int a)) (tCons (tC (.bl x)) tNil))) (tCons (tTup (tCons (tC (.int b)) (tCons (tC (.bl y)) tNil))) tNil))) σ H' (PPR ((a, x), (b, y))) := fun {σ H' a b x y} =>
      (evq_tup2 (evq_new (eu_tup (vs := [.int a, .bl x]) (ea_cons ev_c (ea_cons ev_c ea_nil)) (by show 2 ≤ 100000; decide))) (evq_new (eu_tup (vs := [.int b, .bl y]) (ea_cons ev_c (ea_cons ev_c ea_nil)) (by show 2 ≤ 100000; decide))) mon_tup mon_tup).to fun v H' e ⟨u, a, b, hv, hu, ⟨a', ha, ha2⟩, ⟨b', hb, hb2⟩⟩ => by
        subst hv ha hb
        exact ⟨u, a', b', rfl, hu, ha2, hb2⟩
    refine q_ifQ (i := 4) (R := PPR (Ar.norm ⟨(r1, r2), (c1, c2), wh, s1⟩).ro) (v0 := ro) (cq (u := .cols) rfl rfl) (fun hb => ?_) (fun hb => ⟨rfl, ?_⟩) mon_pp fun ro H7 e7 hro7 => ?_
    · have hw := of_decide_eq_true hb
      have z : (Ar.norm ⟨(r1, r2), (c1, c2), wh, s1⟩).ro = ((1, false), (1000000, false)) := if_pos hw
      rw [z]
      exact pc2
    · have hw := of_decide_eq_false hb
      have z : (Ar.norm ⟨(r1, r2), (c1, c2), wh, s1⟩).ro = ordP r1 r2 := if_neg hw
      rw [z]
      exact hro6
    have e17 := e16.trans e7
    refine q_ifQ (i := 5) (R := PPR (Ar.norm ⟨(r1, r2), (c1, c2), wh, s1⟩).co) (v0 := co) (cq (u := .rows) rfl rfl) (fun hb => ?_) (fun hb => ⟨rfl, ?_⟩) mon_pp fun co H8 e8 hco8 => ?_
    · have hw := of_decide_eq_true hb
      have z : (Ar.norm ⟨(r1, r2), (c1, c2), wh, s1⟩).co = ((1, false), (18278, false)) := if_pos hw
      rw [z]
      exact pc2
    · have hw := of_decide_eq_false hb
      have z : (Ar.norm ⟨(r1, r2), (c1, c2), wh, s1⟩).co = ordP c1 c2 := if_neg hw
      rw [z]
      exact mon_pp _ _ _ e7 hco
    have e18 := e17.trans e8
    have hro8 := mon_pp _ _ _ e8 hro7
    have nm : (Ar.norm ⟨(r1, r2), (c1, c2), wh, s1⟩).Nm := Ar.On.norm ⟨g1, g2, so1, sg1⟩
    generalize hA : Ar.norm ⟨(r1, r2), (c1, c2), wh, s1⟩ = A at k hro8 hco8 nm
    have hwh : A.wh = wh := by rw [← hA]; rfl
    have hsh : A.sh = s1 := by rw [← hA]; rfl
    have mk : ∀ {j : Int} {σ : L2.St} {H' : Hp} {r c : Int × Bool} {ro co : V}, (j = 0 ∧ r = A.ro.1 ∧ c = A.co.1 ∨ j = 1 ∧ r = A.ro.2 ∧ c = A.co.2) → σ[4]? = some (some ro) → σ[5]? = some (some co) → σ[1]? = some (some (.ref a1)) → PPR A.ro ro H' → PPR A.co co H' → AdrAt pa.C H' a1 r1 c1 s1 → inG r c → EvQ (tCall (spMarked pa.C) [] E (tCons (tOp (rIxT K) (tVar 4) (tC (.int j))) (tCons (tOp (rIxT K) (tVar 5) (tC (.int j))) (tCons (tFld K (tVar 1) "sheet") tNil)))) σ H' (AdrR pa.C r c s1) := fun {j σ H' r c ro co} hj h4 h5 h1 hr hc ha g => by
      obtain ⟨u, x1, y1, rfl, hu, hx1, hy1⟩ := hr
      obtain ⟨u2, x2, y2, rfl, hu2, hx2, hy2⟩ := hc
      rcases hj with ⟨rfl, rfl, rfl⟩ | ⟨rfl, rfl, rfl⟩
      · refine evq_call (eaq_of (ea_cons (ev_op (ev_var h4) ev_c (rv_ixT (v := .ref x1) (st_of hu) rfl)) (ea_cons (ev_op (ev_var h5) ev_c (rv_ixT (v := .ref x2) (st_of hu2) rfl)) (ea_cons (fa h1 ha TA.n_sheet rfl) ea_nil)))) fun vs H2 e2 hv Q q => ?_
        subst hv
        exact ⟨x1, x2, _, _, s1, rfl, e2 _ _ hx1, e2 _ _ hx2, so1, sg1, g, fun y H3 _ e3 h3 => q _ H3 e3 ⟨y, rfl, h3⟩⟩
      · refine evq_call (eaq_of (ea_cons (ev_op (ev_var h4) ev_c (rv_ixT (v := .ref y1) (st_of hu) rfl)) (ea_cons (ev_op (ev_var h5) ev_c (rv_ixT (v := .ref y2) (st_of hu2) rfl)) (ea_cons (fa h1 ha TA.n_sheet rfl) ea_nil)))) fun vs H2 e2 hv Q q => ?_
        subst hv
        exact ⟨y1, y2, _, _, s1, rfl, e2 _ _ hy1, e2 _ _ hy2, so1, sg1, g, fun y H3 _ e3 h3 => q _ H3 e3 ⟨y, rfl, h3⟩⟩
    have hx8 := e18 _ _ hx
    have hs8 : Sib x H H8 := fun b o _ h => e18 b o h
    refine q_fldQ (mk (j := 0) (.inl ⟨rfl, rfl, rfl⟩) rfl rfl rfl hro8 hco8 (h1.ex e18) nm.on.a) rfl hx8 TR.cl TR.n_first (by decide) fun v H9 e9 ⟨y1, hv, hy1⟩ => ?_
    subst hv
    have hx9 := e9 _ _ hx8
    have nCA := MK.nCA
    have hro9 := (mon_pp _ _ _ e9 hro8).upd (o := .ins p.CA dx [("first", .ref y1)]) hx9
    have hco9 := (mon_pp _ _ _ e9 hco8).upd (o := .ins p.CA dx [("first", .ref y1)]) hx9
    have h19 := ((h1.ex e18).ex e9).upd (o := .ins p.CA dx [("first", .ref y1)]) hx9 nCA
    have hy9 := hy1.upd (o := .ins p.CA dx [("first", .ref y1)]) hx9 nCA
    have hs9 : Sib x H (upd H9 x (.ins p.CA dx [("first", .ref y1)])) := sib_up (sib_ext hs8 e9)
    have hx9b : (upd H9 x (.ins p.CA dx [("first", .ref y1)])) x = some (.ins p.CA dx [("first", .ref y1)]) := upd_same
    show tSeq _ _ _ _ (upd H9 x (.ins p.CA dx [("first", .ref y1)]))
    generalize upd H9 x (.ins p.CA dx [("first", .ref y1)]) = Ha at hro9 hco9 h19 hy9 hs9 hx9b
    refine q_fldQ (mk (j := 1) (.inr ⟨rfl, rfl, rfl⟩) rfl rfl rfl hro9 hco9 h19 nm.on.b) rfl hx9b TR.cl TR.n_last (by show 1 < 1000; decide) fun v H10 e10 ⟨y2, hv, hy2⟩ => ?_
    subst hv
    have hx10 := e10 _ _ hx9b
    have h110 := (h19.ex e10).upd (o := .ins p.CA dx [("first", .ref y1), ("last", .ref y2)]) hx10 nCA
    have hy110 := (hy9.ex e10).upd (o := .ins p.CA dx [("first", .ref y1), ("last", .ref y2)]) hx10 nCA
    have hy210 := hy2.upd (o := .ins p.CA dx [("first", .ref y1), ("last", .ref y2)]) hx10 nCA
    have hs10 : Sib x H (upd H10 x (.ins p.CA dx [("first", .ref y1), ("last", .ref y2)])) := sib_up (sib_ext hs9 e10)
    have hxb : (upd H10 x (.ins p.CA dx [("first", .ref y1), ("last", .ref y2)])) x = some (.ins p.CA dx [("first", .ref y1), ("last", .ref y2)]) := upd_same
    show tSeq _ _ _ _ (upd H10 x (.ins p.CA dx [("first", .ref y1), ("last", .ref y2)]))
    generalize upd H10 x (.ins p.CA dx [("first", .ref y1), ("last", .ref y2)]) = Hb at h110 hy110 hy210 hs10 hxb
    refine q_fldQ (evq_of (ev_var (v := whV wh) rfl)) rfl hxb TR.cl TR.n_whole (by show 2 < 1000; decide) fun v Hc ec hv => ?_
    subst hv
    have hxc := ec _ _ hxb
    have h1c := (h110.ex ec).upd (o := .ins p.CA dx [("first", .ref y1), ("last", .ref y2), ("whole", whV wh)]) hxc nCA
    have hy1c := (hy110.ex ec).upd (o := .ins p.CA dx [("first", .ref y1), ("last", .ref y2), ("whole", whV wh)]) hxc nCA
    have hy2c := (hy210.ex ec).upd (o := .ins p.CA dx [("first", .ref y1), ("last", .ref y2), ("whole", whV wh)]) hxc nCA
    have hsc : Sib x H (upd Hc x (.ins p.CA dx [("first", .ref y1), ("last", .ref y2), ("whole", whV wh)])) := sib_up (sib_ext hs10 ec)
    have hxc2 : (upd Hc x (.ins p.CA dx [("first", .ref y1), ("last", .ref y2), ("whole", whV wh)])) x = some (.ins p.CA dx [("first", .ref y1), ("last", .ref y2), ("whole", whV wh)]) := upd_same
    show tSeq _ _ _ _ (upd Hc x (.ins p.CA dx [("first", .ref y1), ("last", .ref y2), ("whole", whV wh)]))
    generalize upd Hc x (.ins p.CA dx [("first", .ref y1), ("last", .ref y2), ("whole", whV wh)]) = Hd at h1c hy1c hy2c hsc hxc2
    refine q_fldQ (evq_of (fa (i := 1) rfl h1c TA.n_sheet rfl)) rfl hxc2 TR.cl TR.n_sheet (by show 3 < 1000; decide) fun v He ee hv => ?_
    subst hv
    have hxe := ee _ _ hxc2
    have hy1e := (hy1c.ex ee).upd (o := .ins p.CA dx [("first", .ref y1), ("last", .ref y2), ("whole", whV wh), ("sheet", shV s1)]) hxe nCA
    have hy2e := (hy2c.ex ee).upd (o := .ins p.CA dx [("first", .ref y1), ("last", .ref y2), ("whole", whV wh), ("sheet", shV s1)]) hxe nCA
    have hse : Sib x H (upd He x (.ins p.CA dx [("first", .ref y1), ("last", .ref y2), ("whole", whV wh), ("sheet", shV s1)])) := sib_up (sib_ext hsc ee)
    have hxe2 : (upd He x (.ins p.CA dx [("first", .ref y1), ("last", .ref y2), ("whole", whV wh), ("sheet", shV s1)])) x = some (.ins p.CA dx [("first", .ref y1), ("last", .ref y2), ("whole", whV wh), ("sheet", shV s1)]) := upd_same
    show tSeq _ _ _ _ (upd He x (.ins p.CA dx [("first", .ref y1), ("last", .ref y2), ("whole", whV wh), ("sheet", shV s1)]))
    generalize upd He x (.ins p.CA dx [("first", .ref y1), ("last", .ref y2), ("whole", whV wh), ("sheet", shV s1)]) = Hf at hy1e hy2e hse hxe2
    have df : ∀ {σ : L2.St} {H' : Hp} {fs : List (Str × V)} {f : Str} {m n : Int}, σ[0]? = some (some (.ref x)) → H' x = some (.ins p.CA dx fs) → fs.lookup ("first" : Str) = some (V.ref y1) → fs.lookup ("last" : Str) = some (V.ref y2) → AdrAt pa.C H' y1 A.ro.1 A.co.1 s1 → AdrAt pa.C H' y2 A.ro.2 A.co.2 s1 → NoAttr K pa.C f → (flds A.ro.1.1 A.co.1.1 A.ro.1.2 A.co.1.2 s1).lookup f = some (.int m) → (flds A.ro.2.1 A.co.2.1 A.ro.2.2 A.co.2.2 s1).lookup f = some (.int n) →
        Ev (tOp (rI0 fun i j => .int (i + j)) (tOp (rI0 fun i j => .int (i - j)) (tFld K (tFld K (tVar 0) "last") f) (tFld K (tFld K (tVar 0) "first") f)) (tC (.int 1))) σ H' (.int (n - m + 1)) := fun h0 hx hf hl ⟨d1, z1⟩ ⟨d2, z2⟩ n h1 h2 =>
      ev_op (ev_op (ev_fldG (ev_fldG (ev_var h0) hx TR.cl TR.n_last hl) z2 TA.cl n h2) (ev_fldG (ev_fldG (ev_var h0) hx TR.cl TR.n_first hf) z1 TA.cl n h1) rv_I0) ev_c rv_I0
    refine q_fldQ (evq_of (df (f := "row") rfl hxe2 rfl rfl hy1e hy2e TA.n_row rfl rfl)) rfl hxe2 TR.cl TR.n_height (by show 4 < 1000; decide) fun v Hg eg hv => ?_
    subst hv
    have hxg := eg _ _ hxe2
    have hy1g := (hy1e.ex eg).upd (o := .ins p.CA dx [("first", .ref y1), ("last", .ref y2), ("whole", whV wh), ("sheet", shV s1), ("height", .int A.ht)]) hxg nCA
    have hy2g := (hy2e.ex eg).upd (o := .ins p.CA dx [("first", .ref y1), ("last", .ref y2), ("whole", whV wh), ("sheet", shV s1), ("height", .int A.ht)]) hxg nCA
    have hsg : Sib x H (upd Hg x (.ins p.CA dx [("first", .ref y1), ("last", .ref y2), ("whole", whV wh), ("sheet", shV s1), ("height", .int A.ht)])) := sib_up (sib_ext hse eg)
    have hxg2 : (upd Hg x (.ins p.CA dx [("first", .ref y1), ("last", .ref y2), ("whole", whV wh), ("sheet", shV s1), ("height", .int A.ht)])) x = some (.ins p.CA dx [("first", .ref y1), ("last", .ref y2), ("whole", whV wh), ("sheet", shV s1), ("height", .int A.ht)]) := upd_same
    show sFld _ _ _ _ _ _ (upd Hg x (.ins p.CA dx [("first", .ref y1), ("last", .ref y2), ("whole", whV wh), ("sheet", shV s1), ("height", .int A.ht)]))
    generalize upd Hg x (.ins p.CA dx [("first", .ref y1), ("last", .ref y2), ("whole", whV wh), ("sheet", shV s1), ("height", .int A.ht)]) = Hh at hy1g hy2g hsg hxg2
    refine (df (f := "column") rfl hxg2 rfl rfl hy1g hy2g TA.n_column rfl rfl) Hh (Ex.refl Hh) _ fun Hi ei => ⟨_, rfl, x, p.CA, dx, _, rfl, ei _ _ hxg2, TR.cl, TR.n_width, by show 5 < 1000; decide, ?_⟩
    have hxi := ei _ _ hxg2
    refine k _ y1 y2 (sib_up (sib_ext hsg ei)) ?_ ((hy1g.ex ei).upd hxi nCA) ((hy2g.ex ei).upd hxi nCA)
    rw [upd_same]
    unfold afl
    rw [hwh, hsh]
    rfl
end
end K18

set_option Elab.async false
set_option linter.all false
set_option maxRecDepth 100000
set_option maxHeartbeats 4000000
namespace K18
open PySem PySem.Spec PyProof.Rows L2 Pen EV2 Evl TX LamX
/-- a new Area -/
def AreaR (CA C : Addr) (A : Ar) : V → Hp → Prop := fun v H' => ∃ a, v = .ref a ∧ AreaAt CA C H' a A
theorem mon_area {CA C : Addr} {A : Ar} : MonR (AreaR CA C A) := fun v H H' e ⟨a, h1, h2⟩ => ⟨a, h1, h2.ex e⟩
theorem mon_adr {C : Addr} {r c : Int × Bool} {sh : Option (List Nat)} : MonR (AdrR C r c sh) := fun v H H' e ⟨a, h1, h2⟩ => ⟨a, h1, h2.ex e⟩
theorem alike_refl : ∀ a : Option (List Nat), alike a a = true
  | none => rfl
  | some l => decide_eq_true rfl
section
variable {K : PySem.W.Frag} {pa : AdC} {p : AdR} {CB : Addr} {σ : L2.St} {H : Hp}
/-- Area(one, other, whole = w) -/
theorem evq_area {E : XK} {ta : TA} {tw : TE} {r1 c1 r2 c2 : Int × Bool} {s1 s2 : Option (List Nat)} {wh : Wh} (ha : EvAQ ta σ H (TwoR (AdrR pa.C r1 c1 s1) (AdrR pa.C r2 c2 s2))) (hw : Ev tw σ H (whV wh)) (g1 : inG r1 c1) (g2 : inG r2 c2) (o1 : shOk s1) (q1 : shGood s1 = true) (o2 : shOk s2) (al : s2 = none ∨ alike s1 s2 = true) (nCA : p.CA ≠ pa.C) :
    EvQ (tMakeK p.CA 2 1 (spAInit K pa.C p.CA CB) (fun vs zs => vs ++ zs) E ta (tCons tw tNil)) σ H (AreaR p.CA pa.C (Ar.norm ⟨(r1, r2), (c1, c2), wh, s1⟩)) := fun H1 e1 Q q =>
  ha H1 e1 _ fun vs H2 e2 ⟨a, b, hv, ⟨a1, h1, hA1⟩, ⟨a2, h2, hA2⟩⟩ => hw H2 (e1.trans e2) _ fun H3 e3 => by
    subst hv h1 h2
    refine ⟨rfl, rfl, fun x dx nx ndx ne => ?_⟩
    have nx2 : (upd H3 dx (.own x)) x = none := by rw [upd_ne fun z => ne z.symm]; exact nx
    have e4 : Ex H3 (upd (upd H3 dx (.own x)) x (.ins p.CA dx [])) := (Ex.new ndx).trans (Ex.new nx2)
    refine ⟨x, dx, a1, .ref a2, whV wh, r1, c1, s1, rfl, upd_same, (hA1.ex e3).ex e4, g1, o1, q1, .inr ⟨a2, r2, c2, s2, rfl, (hA2.ex e3).ex e4, g2, o2, .inr ⟨al, .inr ⟨wh, rfl, fun H5 y1 y2 s5 hx5 h1 h2 => ⟨rfl, ?_⟩⟩⟩⟩⟩
    refine q _ H5 (fun b o hb => ?_) ⟨x, rfl, dx, y1, y2, hx5, h1, h2⟩
    have hb3 := (e2.trans e3) _ _ hb
    exact s5 b o (ne_of_none hb3 nx) (e4 _ _ hb3)
/-- Address(row, column, sheet = s) -/
theorem evq_adr {E : XK} {ta tk : TA} {r c : Int} {sh : Option (List Nat)} (ha : EvA ta σ H [.int r, .int c]) (hk : EvA tk σ H [shV sh]) (so : shOk sh) (sg2 : shGood sh = true) (g : inG (r, false) (c, false)) :
    EvQ (tMakeK pa.C 2 1 (spInit K pa CB) (fun vs zs => vs ++ [.bl false, .bl false] ++ zs) E ta tk) σ H (AdrR pa.C (r, false) (c, false) sh) := fun H1 e Q q =>
  ha H1 e _ fun H2 e2 => hk H2 (e.trans e2) _ fun H3 e3 => ⟨rfl, rfl, init_good so sg2 g.ok (e2.trans e3) fun x dx H4 _ e4 h4 => q _ H4 e4 ⟨x, rfl, dx, h4⟩⟩
end
def spBetween (CA C : Addr) : Sp := fun vs H Q _ => ∃ (t l b r : Int) (sh : Option (List Nat)) (wh : Wh), vs = [.int t, .int l, .int b, .int r, shV sh, whV wh] ∧ inG (t, false) (l, false) ∧ inG (b, false) (r, false) ∧ shOk sh ∧ shGood sh = true ∧
  ∀ (a : Addr) (H' : Hp), Same H H' → AreaAt CA C H' a (Ar.norm ⟨((t, false), (b, false)), ((l, false), (r, false)), wh, sh⟩) → Q (.ref a) H'
def eqAr (A B : Ar) : Bool := decide (A.ro = B.ro ∧ A.co = B.co ∧ A.wh = B.wh) && alike A.sh B.sh
def spAreaEq (CA C : Addr) : Sp := fun vs H Q _ => ∃ (a b : Addr) (A B : Ar), vs = [.ref a, .ref b] ∧ AreaAt CA C H a A ∧ AreaAt CA C H b B ∧ shOk A.sh ∧ shOk B.sh ∧ ∀ H', Same H H' → Q (.bl (eqAr A B)) H'
def spHas (CA C : Addr) : Sp := fun vs H Q _ => ∃ (a b : Addr) (A : Ar) (r c : Int × Bool) (sh : Option (List Nat)), vs = [.ref a, .ref b] ∧ AreaAt CA C H a A ∧ AdrAt C H b r c sh ∧ shOk A.sh ∧ shOk sh ∧
  ∀ H', Same H H' → Q (.bl (decide ((A.ro.1.1 ≤ r.1 ∧ r.1 ≤ A.ro.2.1) ∧ A.co.1.1 ≤ c.1 ∧ c.1 ≤ A.co.2.1) && meet A.sh sh)) H'
section
variable {P : Program} {w : World} {K : PySem.W.Frag} {mg : Str → Option Value} {base : Heap} {pc : Ads} {pg : AdG} {pa : AdC} {D : Addr} {p : AdR} {mv : List Value}

theorem ok_area_between (TC : TxtC K mg pc) (TG : TxtG K mg pg) (TA : TxtA6 K mg pc.S pa) (Z : TxtB K mg pa D) (TR : TxtR K mg p) (MK : TxtK K pa p mv) : FnOk P w K mg base (L2.CX P w) 10 p.f_area_between p.d_area_between P_area_between (spBetween p.CA pa.C) := by
  have GA : FnOk P w K mg base (L2.CX P w) 8 p.m_init p.e_init P_Area_init (spAInit K pa.C p.CA pc.CB) := ok_Area_init TC TG TA Z TR MK
  refine TR.F_area_between.okX sc_area_between (fun vs H Q E h => ?_) (fun cdv A outer s H vs Q E hr h => ?_)
  · obtain ⟨t, l, b, r, sh, wh, rfl, _⟩ := h
    rfl
  · obtain ⟨t, l, b, r, sh, wh, rfl, g1, g2, so, sg2, k⟩ := h
    refine ⟨_, (pss_one (ps_ret (pe_makeK (n := 2) TR.mkA (GA) (hr.mono (by decide)) (by rfl) TR.mg_Area (kb_Area TR.F_init) (passes_call (takes_of rfl rfl rfl rfl) fun _ _ _ _ h => h) (pa_cons (pe_makeK (n := 2) Z.mkA (ok_Address_init TC TG TA) (hr.mono (by decide)) (by rfl) TA.mg_Address MK.kb1 (passes_call (takes_of rfl rfl rfl rfl) fun _ _ _ _ h => h) (pa_cons (pv 0) (pa_cons (pv 1) pa_nil)) (pk_cons (pv 4) pk_nil)) (pa_cons (pe_makeK (n := 2) Z.mkA (ok_Address_init TC TG TA) (hr.mono (by decide)) (by rfl) TA.mg_Address MK.kb1 (passes_call (takes_of rfl rfl rfl rfl) fun _ _ _ _ h => h) (pa_cons (pv 2) (pa_cons (pv 3) pa_nil)) (pk_cons (pv 4) pk_nil)) pa_nil)) (pk_cons (pv 5) pk_nil)))), ?_⟩
    refine q_retQ (evq_area (eaq_two (evq_adr (ea_cons (ev_var rfl) (ea_cons (ev_var rfl) ea_nil)) (ea_cons (ev_var rfl) ea_nil) so sg2 g1) (evq_adr (ea_cons (ev_var rfl) (ea_cons (ev_var rfl) ea_nil)) (ea_cons (ev_var rfl) ea_nil) so sg2 g2) mon_adr) (ev_var rfl) g1 g2 so sg2 so (.inr (alike_refl _)) MK.nCA) fun v H1 e1 ⟨a, hv, ha⟩ => ?_
    subst hv
    exact k a H1 e1 ha
theorem ok_Area_eq (TC : TxtC K mg pc) (TG : TxtG K mg pg) (TA : TxtA6 K mg pc.S pa) (Z : TxtB K mg pa D) (TR : TxtR K mg p) (MK : TxtK K pa p mv) : FnOk P w K mg base CX0 8 p.m_eq p.e_eq P_Area___eq__ (spAreaEq p.CA pa.C) := by
  have G_Address_eq : FnOk P w K mg base CX0 6 pa.f_eq pa.d_eq P_Address___eq__ (spAeq K pa.C) := ok_Address_eq TC TG TA Z
  refine TR.F_eq.ok sc_Area___eq__ (fun vs H Q E h => ?_) (fun cdv A outer s H vs Q E hr h => ?_)
  · obtain ⟨a, b, A, B, rfl, _⟩ := h
    rfl
  · obtain ⟨a, b, A, B, rfl, hA, hB, oA, oB, k⟩ := h
    refine ⟨_, (pss_one (ps_ret (pe_and (pe_callB (id := "isinstance") call_isi (by rfl) TC.n_isinstance (by decide +kernel) (pa_cons (pv 1) (pa_cons (pe_glob (v := .ref p.CA) (by rfl) TR.mg_Area rfl) pa_nil))) (pe_and (pe_cmpR (op_eqO G_Address_eq MK.hsA MK.hfA MK.b_eqA pass0 (hr.mono (by decide))) (pe_fld (pv 0) rfl) (pe_fld (pv 1) rfl) (nomark _)) (pe_and (pe_cmpR (op_eqO G_Address_eq MK.hsA MK.hfA MK.b_eqA pass0 (hr.mono (by decide))) (pe_fld (pv 0) rfl) (pe_fld (pv 1) rfl) (nomark _)) (pe_one (pe_cmpR op_eq (pe_fld (pv 0) rfl) (pe_fld (pv 1) rfl) (nomark _)))))))), ?_⟩
    have me : PySem.W.kitOne K (.ref p.CA) (.ref p.CA) = some true := by
      unfold PySem.W.kitOne
      rw [if_pos (by simp)]
    have nf : PySem.W.notFirst K pa.C (.ref pa.C) = true := by
      unfold PySem.W.notFirst
      simp
    have ei : Ev (tCB (rIsi K) (tCons (tVar 1) (tCons (tC (.ref p.CA)) tNil))) [some (.ref a), some (.ref b)] H (.bl true) := fun H1 e Q q => ⟨_, rfl, .ref b, .ref p.CA, .ref p.CA, .ref p.CA, true, rfl, .own p.CA, area_ty TR (hB.ex e), me, q H1 (Ex.refl H1)⟩
    obtain ⟨dA, a1, a2, hA, hA1, hA2⟩ := hA
    obtain ⟨dB, b1, b2, hB, hB1, hB2⟩ := hB
    have eqv : ∀ {x y : Addr} {r1 c1 r2 c2 : Int × Bool} {v w : TE} {σ : L2.St}, AdrAt pa.C H x r1 c1 A.sh → AdrAt pa.C H y r2 c2 B.sh → Ev v σ H (.ref x) → Ev w σ H (.ref y) → Ev (tOp (rEqO K pa.C (spAeq K pa.C) E0) v w) σ H (.bl (decide (r1 = r2) && decide (c1 = c2) && alike A.sh B.sh)) := fun {x y r1 c1 r2 c2 v w σ} ⟨d1, h1⟩ ⟨d2, h2⟩ ev ew => ev_op ev ew fun H1 e1 Q kq => by
      refine ⟨x, d1, _, .ref pa.C, rfl, e1 _ _ h1, adr_ty TA Z (e1 _ _ h2), nf, x, d1, _, _, _, _, _, _, rfl, e1 _ _ h1, oA, .inl ⟨y, d2, _, _, _, _, _, rfl, e1 _ _ h2, oB, fun H' s => ⟨⟨_, rfl⟩, ?_⟩⟩⟩
      have z : (decide (r1.1 = r2.1) && decide (c1.1 = c2.1) && alike A.sh B.sh && decide (r1.2 = r2.2) && decide (c1.2 = c2.2)) = (decide (r1 = r2) && decide (c1 = c2) && alike A.sh B.sh) := by
        rw [Bool.eq_iff_iff]
        simp only [Bool.and_eq_true, decide_eq_true_eq, Prod.ext_iff]
        constructor
        · rintro ⟨⟨⟨⟨h1, h2⟩, h3⟩, h4⟩, h5⟩
          exact ⟨⟨⟨h1, h4⟩, h2, h5⟩, h3⟩
        · rintro ⟨⟨⟨h1, h4⟩, h2, h5⟩, h3⟩
          exact ⟨⟨⟨⟨h1, h2⟩, h3⟩, h4⟩, h5⟩
      rw [z]
      exact kq H' s
    refine (ev_andV ei fun _ => ev_andV (eqv hA1 hB1 (ev_fldG (ev_var rfl) hA TR.cl TR.n_first rfl) (ev_fldG (ev_var rfl) hB TR.cl TR.n_first rfl)) fun _ => ev_andV (eqv hA2 hB2 (ev_fldG (ev_var rfl) hA TR.cl TR.n_last rfl) (ev_fldG (ev_var rfl) hB TR.cl TR.n_last rfl)) fun _ => ev_op (ev_fldG (ev_var rfl) hA TR.cl TR.n_whole rfl) (ev_fldG (ev_var rfl) hB TR.cl TR.n_whole rfl) (rv_eq (by show scal (whV A.wh) (whV B.wh) = true; cases A.wh <;> cases B.wh <;> rfl))) H (Ex.refl H) _ fun H1 e1 => ?_
    have g := k H1 e1
    have z : eqAr A B = (true && (decide (A.ro.1 = B.ro.1) && decide (A.co.1 = B.co.1) && alike A.sh B.sh && (decide (A.ro.2 = B.ro.2) && decide (A.co.2 = B.co.2) && alike A.sh B.sh && decide (whV A.wh = whV B.wh)))) := by
      have hw : decide (whV A.wh = whV B.wh) = decide (A.wh = B.wh) := by cases A.wh <;> cases B.wh <;> first | rfl | decide +kernel
      rw [hw]
      unfold eqAr
      rw [Bool.eq_iff_iff]
      simp only [Bool.and_eq_true, decide_eq_true_eq, Prod.ext_iff (x := A.ro), Prod.ext_iff (x := A.co), true_and]
      constructor
      · rintro ⟨⟨⟨h1, h2⟩, ⟨h3, h4⟩, h5⟩, h6⟩
        exact ⟨⟨⟨h1, h3⟩, h6⟩, ⟨⟨h2, h4⟩, h6⟩, h5⟩
      · rintro ⟨⟨⟨h1, h3⟩, h6⟩, ⟨⟨h2, h4⟩, _⟩, h5⟩
        exact ⟨⟨⟨h1, h2⟩, ⟨h3, h4⟩, h5⟩, h6⟩
    rw [z] at g
    exact g
theorem ok_Area_has (TC : TxtC K mg pc) (TG : TxtG K mg pg) (TA : TxtA6 K mg pc.S pa) (Z : TxtB K mg pa D) (TR : TxtR K mg p) : FnOk P w K mg base (L2.CX P w) 8 p.m_has p.e_has P_Area_has (spHas p.CA pa.C) := by
  have G_check_address : FnOk P w K mg base (L2.CX P w) 3 p.f_check_address p.d_check_address P_check_address (spChk K pa.C pc.CB) := ok_check_address TC TA TR
  have G_may_meet : FnOk P w K mg base CX0 6 p.f_may_meet p.d_may_meet P_may_meet spMeet := ok_may_meet TC TG TR
  refine TR.F_has.okX sc_Area_has (fun vs H Q E h => ?_) (fun cdv A outer s H vs Q E hr h => ?_)
  · obtain ⟨a, b, A, r, c, sh, rfl, _⟩ := h
    rfl
  · obtain ⟨a, b, A, r, c, sh, rfl, hA, hb, oA, ob, k⟩ := h
    refine ⟨_, (pss_cons (ps_expr (pe_call G_check_address (hr.mono (by decide)) (by rfl) TR.mg_check_address TR.F_check_address.kp TR.b_check_address .nil (passes_call (takes_of rfl rfl rfl rfl) fun _ _ _ _ h => h) (pa_cons (pv 1) pa_nil)))
      (pss_cons (ps_if (pt_not (pt_val (pe_call G_may_meet (hr.mono (by decide)) (by rfl) TR.mg_may_meet TR.F_may_meet.kp TR.b_may_meet .nil pass0 (pa_cons (pe_fld (pv 0) rfl) (pa_cons (pe_fld (pv 1) rfl) pa_nil))))) (pss_one (ps_ret pe_bl)) pss_nil)
      (pss_cons (ps_if (PW.pt (pw_or (pt_cmpR op_lt (pe_fld (pv 1) rfl) (pe_fld (pe_fld (pv 0) rfl) rfl) (nomark _)) (pw_or1 (pt_cmpR op_gt (pe_fld (pv 1) rfl) (pe_fld (pe_fld (pv 0) rfl) rfl) (nomark _))))) (pss_one (ps_ret pe_bl)) pss_nil)
      (pss_one (ps_ret (pe_chain op_le op_le (pe_fld (pe_fld (pv 0) rfl) rfl) (pe_fld (pv 1) rfl) (pe_fld (pe_fld (pv 0) rfl) rfl))))))), ?_⟩
    have me : PySem.W.kitOne K (.ref pa.C) (.ref pa.C) = some true := by
      unfold PySem.W.kitOne
      rw [if_pos (by simp)]
    obtain ⟨dA, a1, a2, hA, ⟨d1, hA1⟩, ⟨d2, hA2⟩⟩ := hA
    obtain ⟨db, hb⟩ := hb
    refine q_drop (v := .non) (fun H1 e Q q => ⟨_, rfl, .ref b, .ref pa.C, true, rfl, fun H2 e2 => adr_ty TA Z (e2 _ _ (e _ _ hb)), me, fun _ H' s => q H' s, fun z => nomatch z⟩) fun H1 e1 => ?_
    have fA : ∀ {H' : Hp} {f : Str} {v : V}, Ex H H' → NoAttr K p.CA f → (afl a1 a2 A).lookup f = some v → Ev (tFld K (tVar 0) f) [some (.ref a), some (.ref b)] H' v := fun e n hl => ev_fldG (ev_var rfl) (e _ _ hA) TR.cl n hl
    have fb : ∀ {H' : Hp} {f : Str} {v : V}, Ex H H' → NoAttr K pa.C f → (flds r.1 c.1 r.2 c.2 sh).lookup f = some v → Ev (tFld K (tVar 1) f) [some (.ref a), some (.ref b)] H' v := fun e n hl => ev_fldG (ev_var rfl) (e _ _ hb) TA.cl n hl
    have f1 : ∀ {H' : Hp} {f : Str} {v : V}, Ex H H' → NoAttr K pa.C f → (flds A.ro.1.1 A.co.1.1 A.ro.1.2 A.co.1.2 A.sh).lookup f = some v → Ev (tFld K (tFld K (tVar 0) "first") f) [some (.ref a), some (.ref b)] H' v := fun e n hl => ev_fldG (fA e TR.n_first rfl) (e _ _ hA1) TA.cl n hl
    have f2 : ∀ {H' : Hp} {f : Str} {v : V}, Ex H H' → NoAttr K pa.C f → (flds A.ro.2.1 A.co.2.1 A.ro.2.2 A.co.2.2 A.sh).lookup f = some v → Ev (tFld K (tFld K (tVar 0) "last") f) [some (.ref a), some (.ref b)] H' v := fun e n hl => ev_fldG (fA e TR.n_last rfl) (e _ _ hA2) TA.cl n hl
    have em : Ev (tCall spMeet [] E0 (tCons (tFld K (tVar 0) "sheet") (tCons (tFld K (tVar 1) "sheet") tNil))) [some (.ref a), some (.ref b)] H1 (.bl (meet A.sh sh)) :=
      ev_call (ea_cons (fA e1 TR.n_sheet rfl) (ea_cons (fb e1 TA.n_sheet rfl) ea_nil)) fun H2 e Q q E => ⟨A.sh, sh, rfl, oA, ob, fun H' s => q H' s⟩
    refine q_when (et_not (et_B em)) (fun hb H2 e2 => ?_) (fun hb H2 e2 => ?_)
    · have g := k H2 (e1.trans e2)
      rw [show meet A.sh sh = false by simpa using hb, Bool.and_false] at g
      exact g
    have hm : meet A.sh sh = true := by simpa using hb
    have e12 := e1.trans e2
    rw [hm, Bool.and_true] at k
    refine q_when (et_or (et_test (ev_op (fb e12 TA.n_row rfl) (f1 e12 TA.n_row rfl) rv_I0)) fun _ => et_test (ev_op (fb e12 TA.n_row rfl) (f2 e12 TA.n_row rfl) rv_I0)) (fun hb H3 e3 => ?_) (fun hb H3 e3 => ?_)
    · have g := k H3 (e12.trans e3)
      rw [decide_eq_false (show ¬ ((A.ro.1.1 ≤ r.1 ∧ r.1 ≤ A.ro.2.1) ∧ A.co.1.1 ≤ c.1 ∧ c.1 ≤ A.co.2.1) from ?_)] at g
      · exact g
      · rintro ⟨⟨h1, h2⟩, _⟩
        simp only [Bool.or_eq_true, decide_eq_true_eq] at hb
        omega
    · have e13 := e12.trans e3
      refine (ev_between (f1 e13 TA.n_column rfl) (fb e13 TA.n_column rfl) (f2 e13 TA.n_column rfl)) H3 (Ex.refl H3) _ fun H4 e4 => ?_
      have g := k H4 (e13.trans e4)
      simp only [Bool.or_eq_false_iff, decide_eq_false_iff_not] at hb
      have z : decide ((A.ro.1.1 ≤ r.1 ∧ r.1 ≤ A.ro.2.1) ∧ A.co.1.1 ≤ c.1 ∧ c.1 ≤ A.co.2.1) = decide (A.co.1.1 ≤ c.1 ∧ c.1 ≤ A.co.2.1) := decide_eq_decide.mpr ⟨fun h => h.2, fun h => ⟨by omega, h⟩⟩
      rw [z] at g
      exact g
end
end K18

set_option Elab.async false
set_option linter.all false
set_option maxRecDepth 100000
set_option maxHeartbeats 4000000
namespace K18
open PySem PySem.Spec PyProof.Rows L2 Pen EV2 Evl TX LamX
def mx (i j : Int) : Int := if j > i then j else i
def mn (i j : Int) : Int := if j < i then j else i
theorem mx_le (i j : Int) : i ≤ mx i j ∧ j ≤ mx i j ∧ (mx i j = i ∨ mx i j = j) := by
  unfold mx
  split
  · exact ⟨by omega, by omega, .inr rfl⟩
  · exact ⟨by omega, by omega, .inl rfl⟩
theorem mn_le (i j : Int) : mn i j ≤ i ∧ mn i j ≤ j ∧ (mn i j = i ∨ mn i j = j) := by
  unfold mn
  split
  · exact ⟨by omega, by omega, .inr rfl⟩
  · exact ⟨by omega, by omega, .inl rfl⟩
/-- corners without marks -/
def bare (t l b r : Int) (wh : Wh) (sh : Option (List Nat)) : Ar := ⟨((t, false), (b, false)), ((l, false), (r, false)), wh, sh⟩
theorem ord_bare {a b : Int} (h : a ≤ b) : ordP (a, false) (b, false) = ((a, false), (b, false)) := by
  unfold ordP
  by_cases e : a = b
  · rw [if_pos e, e]; rfl
  · rw [if_neg e, if_pos (show (a, false).1 < (b, false).1 by show a < b; omega)]
theorem norm_bare {t l b r : Int} {wh : Wh} {sh : Option (List Nat)} (h1 : t ≤ b) (h2 : l ≤ r) (hc : wh = .cols → t = 1 ∧ b = 1000000) (hr : wh = .rows → l = 1 ∧ r = 18278) : (bare t l b r wh sh).norm = bare t l b r wh sh := by
  have e1 : (bare t l b r wh sh).nRo = ((t, false), (b, false)) := by
    unfold Ar.nRo
    by_cases e : (bare t l b r wh sh).wh = .cols
    · rw [if_pos e, (hc e).1, (hc e).2]
    · rw [if_neg e]; exact ord_bare h1
  have e2 : (bare t l b r wh sh).nCo = ((l, false), (r, false)) := by
    unfold Ar.nCo
    by_cases e : (bare t l b r wh sh).wh = .rows
    · rw [if_pos e, (hr e).1, (hr e).2]
    · rw [if_neg e]; exact ord_bare h2
  unfold Ar.norm
  rw [e1, e2]
  rfl
/-- what two areas have in common -/
def comAr (A B : Ar) : Option Ar := if meet A.sh B.sh = true ∧ mx A.ro.1.1 B.ro.1.1 ≤ mn A.ro.2.1 B.ro.2.1 ∧ mx A.co.1.1 B.co.1.1 ≤ mn A.co.2.1 B.co.2.1 then
    some (bare (mx A.ro.1.1 B.ro.1.1) (mx A.co.1.1 B.co.1.1) (mn A.ro.2.1 B.ro.2.1) (mn A.co.2.1 B.co.2.1) (if A.wh = B.wh then A.wh else .no) (if A.sh = none then B.sh else A.sh)) else none
def partWh (A : Ar) (t l b r : Int) : Wh := if (A.wh = .cols ∧ t = 1 ∧ b = 1000000) ∨ (A.wh = .rows ∧ l = 1 ∧ r = 18278) then A.wh else .no
def part (A : Ar) (t l b r : Int) : Ar := bare t l b r (partWh A t l b r) A.sh
theorem comAr_in {A B M : Ar} (h : comAr A B = some M) (hA : A.Nm) (hB : B.Nm) : M.Nm ∧ A.ro.1.1 ≤ M.ro.1.1 ∧ M.ro.2.1 ≤ A.ro.2.1 ∧ A.co.1.1 ≤ M.co.1.1 ∧ M.co.2.1 ≤ A.co.2.1 ∧ M.norm = M := by
  unfold comAr at h
  split at h
  · rename_i hc
    cases h
    have r1 := mx_le A.ro.1.1 B.ro.1.1
    have r2 := mn_le A.ro.2.1 B.ro.2.1
    have c1 := mx_le A.co.1.1 B.co.1.1
    have c2 := mn_le A.co.2.1 B.co.2.1
    have a1 := hA.on.a
    have a2 := hA.on.b
    have b1 := hB.on.a
    have b2 := hB.on.b
    unfold inG at a1 a2 b1 b2
    have wc : (if A.wh = B.wh then A.wh else .no) = Wh.cols → mx A.ro.1.1 B.ro.1.1 = 1 ∧ mn A.ro.2.1 B.ro.2.1 = 1000000 := fun z => by
      split at z
      · rename_i e
        rw [hA.wc z, hB.wc (e ▸ z)]
        exact ⟨rfl, rfl⟩
      · cases z
    have wr : (if A.wh = B.wh then A.wh else .no) = Wh.rows → mx A.co.1.1 B.co.1.1 = 1 ∧ mn A.co.2.1 B.co.2.1 = 18278 := fun z => by
      split at z
      · rename_i e
        rw [hA.wr z, hB.wr (e ▸ z)]
        exact ⟨rfl, rfl⟩
      · cases z
    have so : shOk (if A.sh = none then B.sh else A.sh) := by split; exact hB.on.so; exact hA.on.so
    have sg2 : shGood (if A.sh = none then B.sh else A.sh) = true := by split; exact hB.on.sg; exact hA.on.sg
    refine ⟨⟨⟨?_, ?_, so, sg2⟩, hc.2.1, hc.2.2, fun z => ?_, fun z => ?_⟩, r1.1, r2.1, c1.1, c2.1, norm_bare hc.2.1 hc.2.2 wc wr⟩
    · show (1 ≤ mx A.ro.1.1 B.ro.1.1 ∧ mx A.ro.1.1 B.ro.1.1 ≤ 1000000) ∧ 1 ≤ mx A.co.1.1 B.co.1.1 ∧ mx A.co.1.1 B.co.1.1 ≤ 18278
      omega
    · show (1 ≤ mn A.ro.2.1 B.ro.2.1 ∧ mn A.ro.2.1 B.ro.2.1 ≤ 1000000) ∧ 1 ≤ mn A.co.2.1 B.co.2.1 ∧ mn A.co.2.1 B.co.2.1 ≤ 18278
      omega
    · have := wc z
      show ((mx A.ro.1.1 B.ro.1.1, false), (mn A.ro.2.1 B.ro.2.1, false)) = _
      rw [this.1, this.2]
    · have := wr z
      show ((mx A.co.1.1 B.co.1.1, false), (mn A.co.2.1 B.co.2.1, false)) = _
      rw [this.1, this.2]
  · cases h
/-- None or an Area -/
def OptR (CA C : Addr) : Option Ar → V → Hp → Prop
  | none => fun v _ => v = .non
  | some A => AreaR CA C A
theorem mon_opt {CA C : Addr} : ∀ o : Option Ar, MonR (OptR CA C o)
  | none => mon_eq
  | some A => mon_area
def spCommon (K : PySem.W.Frag) (CA C CB : Addr) : Sp := fun vs H Q E => ∃ (a : Addr) (y : V) (A : Ar), vs = [.ref a, y] ∧ AreaAt CA C H a A ∧ A.Nm ∧
  ((∃ (b : Addr) (B : Ar), y = .ref b ∧ AreaAt CA C H b B ∧ B.Nm ∧ ∀ v H', Same H H' → OptR CA C (comAr A B) v H' → Q v H') ∨
   (∃ ty : Value, (∀ H', Ex H H' → TyX K H' y ty) ∧ PySem.W.kitOne K ty (.ref CA) = some false ∧ bad CB "value" H y E))
def spPart (CA C : Addr) : Sp := fun vs H Q _ => ∃ (a : Addr) (A : Ar) (t l b r : Int), vs = [.ref a, .int t, .int l, .int b, .int r] ∧ AreaAt CA C H a A ∧ A.Nm ∧ inG (t, false) (l, false) ∧ inG (b, false) (r, false) ∧ t ≤ b ∧ l ≤ r ∧
  ∀ (x : Addr) (H' : Hp), Same H H' → AreaAt CA C H' x (part A t l b r) → Q (.ref x) H'
theorem ev_min2 {σ : L2.St} {H : Hp} {ta tb : TE} {i j : Int} (ha : Ev ta σ H (.int i)) (hb : Ev tb σ H (.int j)) : Ev (tCB (fun xs H Q => ∃ i j, xs = [.int i, .int j] ∧ Q (.int (if j < i then j else i)) H) (tCons ta (tCons tb tNil))) σ H (.int (mn i j)) := fun H1 e Q q =>
  ha H1 e _ fun H2 e2 => hb H2 (e.trans e2) _ fun H3 e3 => ⟨i, j, rfl, q H3 (e2.trans e3)⟩
theorem ev_mx2 {σ : L2.St} {H : Hp} {ta tb : TE} {i j : Int} (ha : Ev ta σ H (.int i)) (hb : Ev tb σ H (.int j)) : Ev (tCB (fun xs H Q => ∃ i j, xs = [.int i, .int j] ∧ Q (.int (if j > i then j else i)) H) (tCons ta (tCons tb tNil))) σ H (.int (mx i j)) := fun H1 e Q q =>
  ha H1 e _ fun H2 e2 => hb H2 (e.trans e2) _ fun H3 e3 => ⟨i, j, rfl, q H3 (e2.trans e3)⟩
/-- self's fields, its corners' fields -/
structure FldE (K : PySem.W.Frag) (C : Addr) (σ : L2.St) (i : Nat) (H : Hp) (A : Ar) : Prop where
  wh : Ev (tFld K (tVar i) "whole") σ H (whV A.wh)
  sh : Ev (tFld K (tVar i) "sheet") σ H (shV A.sh)
  ht : Ev (tFld K (tVar i) "height") σ H (.int A.ht)
  wd : Ev (tFld K (tVar i) "width") σ H (.int A.wd)
  r1 : Ev (tFld K (tFld K (tVar i) "first") "row") σ H (.int A.ro.1.1)
  c1 : Ev (tFld K (tFld K (tVar i) "first") "column") σ H (.int A.co.1.1)
  r2 : Ev (tFld K (tFld K (tVar i) "last") "row") σ H (.int A.ro.2.1)
  c2 : Ev (tFld K (tFld K (tVar i) "last") "column") σ H (.int A.co.2.1)
section
variable {P : Program} {w : World} {K : PySem.W.Frag} {mg : Str → Option Value} {base : Heap} {pc : Ads} {pg : AdG} {pa : AdC} {D : Addr} {p : AdR} {mv : List Value}

theorem flde {S : Addr} {σ : L2.St} {i : Nat} {H : Hp} {a : Addr} {A : Ar} (TA : TxtA6 K mg S pa) (TR : TxtR K mg p) (h : AreaAt p.CA pa.C H a A) (hi : σ[i]? = some (some (.ref a))) : FldE K pa.C σ i H A := by
  obtain ⟨dA, a1, a2, hA, ⟨d1, hA1⟩, ⟨d2, hA2⟩⟩ := h
  have fA : ∀ {f : Str} {v : V}, NoAttr K p.CA f → (afl a1 a2 A).lookup f = some v → Ev (tFld K (tVar i) f) σ H v := fun n hl => ev_fldG (ev_var hi) hA TR.cl n hl
  exact ⟨fA TR.n_whole rfl, fA TR.n_sheet rfl, fA TR.n_height rfl, fA TR.n_width rfl, ev_fldG (fA TR.n_first rfl) hA1 TA.cl TA.n_row rfl, ev_fldG (fA TR.n_first rfl) hA1 TA.cl TA.n_column rfl, ev_fldG (fA TR.n_last rfl) hA2 TA.cl TA.n_row rfl, ev_fldG (fA TR.n_last rfl) hA2 TA.cl TA.n_column rfl⟩
theorem ok_Area_common (TC : TxtC K mg pc) (TG : TxtG K mg pg) (TA : TxtA6 K mg pc.S pa) (Z : TxtB K mg pa D) (TR : TxtR K mg p) (MK : TxtK K pa p mv) : FnOk P w K mg base (L2.CX P w) 12 p.m_common p.e_common P_Area_common (spCommon K p.CA pa.C pc.CB) := by
  have G_check_area : FnOk P w K mg base (L2.CX P w) 3 p.f_check_area p.d_check_area P_check_area (spChk K p.CA pc.CB) := ok_check_area TC TR
  have G_may_meet : FnOk P w K mg base CX0 6 p.f_may_meet p.d_may_meet P_may_meet spMeet := ok_may_meet TC TG TR
  have G_area_between : FnOk P w K mg base (L2.CX P w) 10 p.f_area_between p.d_area_between P_area_between (spBetween p.CA pa.C) := ok_area_between TC TG TA Z TR MK
  refine TR.F_common.okX sc_Area_common (fun vs H Q E h => ?_) (fun cdv A outer s H vs Q E hr h => ?_)
  · obtain ⟨a, y, A, rfl, _⟩ := h
    rfl
  · obtain ⟨a, y, A, rfl, hA, nA, h⟩ := h
    refine ⟨_, (pss_cons (ps_expr (pe_call G_check_area (hr.mono (by decide)) (by rfl) TR.mg_check_area TR.F_check_area.kp TR.b_check_area .nil (passes_call (takes_of rfl rfl rfl rfl) fun _ _ _ _ h => h) (pa_cons (pv 1) pa_nil)))
      (pss_cons (ps_if (pt_not (pt_val (pe_call G_may_meet (hr.mono (by decide)) (by rfl) TR.mg_may_meet TR.F_may_meet.kp TR.b_may_meet .nil pass0 (pa_cons (pe_fld (pv 0) rfl) (pa_cons (pe_fld (pv 1) rfl) pa_nil))))) (pss_one (ps_ret pe_non)) pss_nil)
      (pss_cons (ps_par (i := 2) (j := 3) (by rfl) sc_Area_common.nd rfl rfl (by decide) rfl rfl (pa_cons (pe_callB (id := "max") (call_max2 rfl) (by rfl) TR.n_max (by decide +kernel) (pa_cons (pe_fld (pe_fld (pv 0) rfl) rfl) (pa_cons (pe_fld (pe_fld (pv 1) rfl) rfl) pa_nil))) (pa_cons (pe_callB (id := "min") (call_min2 rfl) (by rfl) TR.n_min (by decide +kernel) (pa_cons (pe_fld (pe_fld (pv 0) rfl) rfl) (pa_cons (pe_fld (pe_fld (pv 1) rfl) rfl) pa_nil))) pa_nil)) (by rfl))
      (pss_cons (ps_par (i := 4) (j := 5) (by rfl) sc_Area_common.nd rfl rfl (by decide) rfl rfl (pa_cons (pe_callB (id := "max") (call_max2 rfl) (by rfl) TR.n_max (by decide +kernel) (pa_cons (pe_fld (pe_fld (pv 0) rfl) rfl) (pa_cons (pe_fld (pe_fld (pv 1) rfl) rfl) pa_nil))) (pa_cons (pe_callB (id := "min") (call_min2 rfl) (by rfl) TR.n_min (by decide +kernel) (pa_cons (pe_fld (pe_fld (pv 0) rfl) rfl) (pa_cons (pe_fld (pe_fld (pv 1) rfl) rfl) pa_nil))) pa_nil)) (by rfl))
      (pss_cons (ps_if (PW.pt (pw_or (pt_cmpR op_gt (pv 2) (pv 3) (nomark _)) (pw_or1 (pt_cmpR op_gt (pv 4) (pv 5) (nomark _))))) (pss_one (ps_ret pe_non)) pss_nil)
      (pss_cons (ps_set (i := 6) sc_Area_common.nd rfl (Or.inl rfl) (pe_ifExp (pt_cmpR op_isN1 (pe_fld (pv 0) rfl) pe_non (nomark _)) (pe_fld (pv 1) rfl) (pe_fld (pv 0) rfl)))
      (pss_one (ps_ret (pe_call G_area_between (hr.mono (by decide)) (by rfl) TR.mg_area_between TR.F_area_between.kp TR.b_area_between .nil (passes_call (takes_of rfl rfl rfl rfl) fun _ _ _ _ h => h) (pa_cons (pv 2) (pa_cons (pv 4) (pa_cons (pv 3) (pa_cons (pv 5) (pa_cons (pv 6) (pa_cons (pe_ifExp (pt_cmpR op_eq (pe_fld (pv 0) rfl) (pe_fld (pv 1) rfl) (nomark _)) (pe_fld (pv 0) rfl) pe_non) pa_nil))))))))))))))), ?_⟩
    rcases h with ⟨b, B, rfl, hB, nB, k⟩ | ⟨ty, kn, hk, hb⟩
    · have me : PySem.W.kitOne K (.ref p.CA) (.ref p.CA) = some true := by
        unfold PySem.W.kitOne
        rw [if_pos (by simp)]
      refine q_drop (v := .non) (fun H1 e Q q => ⟨_, rfl, .ref b, .ref p.CA, true, rfl, fun H2 e2 => area_ty TR ((hB.ex e).ex e2), me, fun _ H' s => q H' s, fun z => nomatch z⟩) fun H1 e1 => ?_
      have em : Ev (tCall spMeet [] E0 (tCons (tFld K (tVar 0) "sheet") (tCons (tFld K (tVar 1) "sheet") tNil))) [some (.ref a), some (.ref b), none, none, none, none, none] H1 (.bl (meet A.sh B.sh)) :=
        ev_call (ea_cons (flde TA TR (hA.ex e1) rfl).sh (ea_cons (flde TA TR (hB.ex e1) rfl).sh ea_nil)) fun H2 e Q q E => ⟨A.sh, B.sh, rfl, nA.on.so, nB.on.so, fun H' s => q H' s⟩
      refine q_when (et_not (et_B em)) (fun hb H2 e2 => ?_) (fun hb H2 e2 => ?_)
      · have hm : meet A.sh B.sh = false := by simpa using hb
        refine k _ H2 (e1.trans e2) ?_
        unfold comAr
        rw [if_neg (by rw [hm]; simp)]
        exact rfl
      have hm : meet A.sh B.sh = true := by simpa using hb
      have e12 := e1.trans e2
      refine q_parT (v := .int (mx A.ro.1.1 B.ro.1.1)) (w := .int (mn A.ro.2.1 B.ro.2.1)) (ea_cons (ev_mx2 (flde TA TR (hA.ex e12) rfl).r1 (flde TA TR (hB.ex e12) rfl).r1) (ea_cons (ev_min2 (flde TA TR (hA.ex e12) rfl).r2 (flde TA TR (hB.ex e12) rfl).r2) ea_nil)) fun H3 e3 => ?_
      have e13 := e12.trans e3
      refine q_parT (v := .int (mx A.co.1.1 B.co.1.1)) (w := .int (mn A.co.2.1 B.co.2.1)) (ea_cons (ev_mx2 (flde TA TR (hA.ex e13) rfl).c1 (flde TA TR (hB.ex e13) rfl).c1) (ea_cons (ev_min2 (flde TA TR (hA.ex e13) rfl).c2 (flde TA TR (hB.ex e13) rfl).c2) ea_nil)) fun H4 e4 => ?_
      have e14 := e13.trans e4
      refine q_when (et_or (et_test (ev_op (ev_var rfl) (ev_var rfl) rv_I0)) fun _ => et_test (ev_op (ev_var rfl) (ev_var rfl) rv_I0)) (fun hb H5 e5 => ?_) (fun hb H5 e5 => ?_)
      · refine k _ H5 (e14.trans e5) ?_
        unfold comAr
        rw [if_neg ?_]
        · exact rfl
        · simp only [Bool.or_eq_true, decide_eq_true_eq] at hb
          rintro ⟨_, h1, h2⟩
          omega
      simp only [Bool.or_eq_false_iff, decide_eq_false_iff_not] at hb
      have hc : comAr A B = some (bare (mx A.ro.1.1 B.ro.1.1) (mx A.co.1.1 B.co.1.1) (mn A.ro.2.1 B.ro.2.1) (mn A.co.2.1 B.co.2.1) (if A.wh = B.wh then A.wh else .no) (if A.sh = none then B.sh else A.sh)) := by
        unfold comAr
        rw [if_pos ⟨hm, by omega, by omega⟩]
      have e15 := e14.trans e5
      have nM := comAr_in hc nA nB
      rw [hc] at k
      refine q_asg (v := shV (if A.sh = none then B.sh else A.sh)) ?_ fun H6 e6 => ?_
      · have z : decide (shV A.sh = V.non) = decide (A.sh = none) := by cases A.sh <;> rfl
        refine TX.ev_if (b := decide (A.sh = none)) (et_test (ev_op (flde TA TR (hA.ex e15) rfl).sh ev_c fun H6 _ Q q => ⟨rfl, by rw [z]; exact q H6 (Ex.refl H6)⟩)) (fun hb => ?_) (fun hb => ?_)
        · rw [if_pos (of_decide_eq_true hb)]
          exact (flde TA TR (hB.ex e15) rfl).sh
        · rw [if_neg (of_decide_eq_false hb)]
          exact (flde TA TR (hA.ex e15) rfl).sh
      have e16 := e15.trans e6
      have ew : ∀ {σ : L2.St}, σ[0]? = some (some (.ref a)) → σ[1]? = some (some (.ref b)) → Ev (tIf (tTest (tOp rEq (tFld K (tVar 0) "whole") (tFld K (tVar 1) "whole"))) (tFld K (tVar 0) "whole") (tC .non)) σ H6 (whV (if A.wh = B.wh then A.wh else .no)) := fun {σ} h0 h1 => by
        have hw : decide (whV A.wh = whV B.wh) = decide (A.wh = B.wh) := by cases A.wh <;> cases B.wh <;> first | rfl | decide +kernel
        refine TX.ev_if (b := decide (A.wh = B.wh)) (et_is (et_test (ev_op (flde TA TR (hA.ex e16) h0).wh (flde TA TR (hB.ex e16) h1).wh (rv_eq (by cases A.wh <;> cases B.wh <;> rfl)))) hw) (fun hb => ?_) (fun hb => ?_)
        · rw [if_pos (of_decide_eq_true hb)]
          exact (flde TA TR (hA.ex e16) h0).wh
        · rw [if_neg (of_decide_eq_false hb)]
          exact ev_c
      refine q_retQ (R := AreaR p.CA pa.C (Ar.norm (bare (mx A.ro.1.1 B.ro.1.1) (mx A.co.1.1 B.co.1.1) (mn A.ro.2.1 B.ro.2.1) (mn A.co.2.1 B.co.2.1) (if A.wh = B.wh then A.wh else .no) (if A.sh = none then B.sh else A.sh)))) (evq_call (eaq_of (ea_cons (ev_var rfl) (ea_cons (ev_var rfl) (ea_cons (ev_var rfl) (ea_cons (ev_var rfl) (ea_cons (ev_var rfl) (ea_cons (ew rfl rfl) ea_nil))))))) fun vs H2 e2 hv Q q => ?_) fun v H7 e7 r => ?_
      · subst hv
        exact ⟨_, _, _, _, _, _, rfl, nM.1.on.a, nM.1.on.b, nM.1.on.so, nM.1.on.sg, fun x H8 e8 h8 => q _ H8 e8 ⟨x, rfl, h8⟩⟩
      · refine k v H7 (e16.trans e7) ?_
        rw [nM.2.2.2.2.2] at r
        exact r
    · exact ⟨_, rfl, y, ty, false, rfl, kn, hk, (fun z => nomatch z), fun _ => hb⟩
theorem ok_Area_part (TC : TxtC K mg pc) (TG : TxtG K mg pg) (TA : TxtA6 K mg pc.S pa) (Z : TxtB K mg pa D) (TR : TxtR K mg p) (MK : TxtK K pa p mv) : FnOk P w K mg base (L2.CX P w) 12 p.m_part p.e_part P_Area__part (spPart p.CA pa.C) := by
  have G_area_between : FnOk P w K mg base (L2.CX P w) 10 p.f_area_between p.d_area_between P_area_between (spBetween p.CA pa.C) := ok_area_between TC TG TA Z TR MK
  obtain ⟨tR, hROW⟩ := TG.mg_ROWS
  obtain ⟨tK, hCOL⟩ := TC.mg_COLUMNS
  refine TR.F_part.okX sc_Area__part (fun vs H Q E h => ?_) (fun cdv A outer s H vs Q E hr h => ?_)
  · obtain ⟨a, A, t, l, b, r, rfl, _⟩ := h
    rfl
  · obtain ⟨a, A, t, l, b, r, rfl, hA, nA, g1, g2, h1, h2, k⟩ := h
    refine ⟨_, (pss_cons (ps_set (i := 5) sc_Area__part.nd rfl (Or.inl rfl) (pe_or (pe_and (pe_cmpR op_eq (pe_fld (pv 0) rfl) pe_str (nomark _)) (pe_and (pe_cmpR op_eq (pv 1) pe_int (nomark _)) (pe_one (pe_cmpR op_eq (pv 3) (pe_glob (v := .int 1000000) (by rfl) hROW ⟨_, rfl⟩) (nomark _))))) (pe_one (pe_and (pe_cmpR op_eq (pe_fld (pv 0) rfl) pe_str (nomark _)) (pe_and (pe_cmpR op_eq (pv 2) pe_int (nomark _)) (pe_one (pe_cmpR op_eq (pv 4) (pe_glob (v := .int 18278) (by rfl) hCOL ⟨_, rfl⟩) (nomark _))))))))
      (pss_one (ps_ret (pe_call G_area_between (hr.mono (by decide)) (by rfl) TR.mg_area_between TR.F_area_between.kp TR.b_area_between .nil (passes_call (takes_of rfl rfl rfl rfl) fun _ _ _ _ h => h) (pa_cons (pv 1) (pa_cons (pv 2) (pa_cons (pv 3) (pa_cons (pv 4) (pa_cons (pe_fld (pv 0) rfl) (pa_cons (pe_ifExp (pt_val (pv 5)) (pe_fld (pv 0) rfl) pe_non) pa_nil)))))))))), ?_⟩
    have cq : ∀ {H' : Hp} {z : Str} {u : Wh} {σ : L2.St}, AreaAt p.CA pa.C H' a A → σ[0]? = some (some (.ref a)) → whV u = .str z → Ev (tOp rEq (tFld K (tVar 0) "whole") (tC (.str z))) σ H' (.bl (decide (A.wh = u))) := fun {H' z u σ} ha h0 hz => by
      have h1 : decide (whV A.wh = V.str z) = decide (A.wh = u) := by
        rw [← hz]
        cases A.wh <;> cases u <;> first | rfl | decide +kernel
      rw [← h1]
      exact ev_op (flde TA TR ha h0).wh ev_c (rv_eq (by cases A.wh <;> rfl))
    have ci : ∀ {H' : Hp} {i : Nat} {m n : Int} {σ : L2.St}, σ[i]? = some (some (.int m)) → Ev (tOp rEq (tVar i) (tC (.int n))) σ H' (.bl (decide (V.int m = V.int n))) := fun h => ev_op (ev_var h) ev_c (rv_eq rfl)
    refine q_asg (ev_orV (ev_andV (cq (u := .cols) hA rfl rfl) fun _ => ev_andV (ci rfl) fun _ => ci rfl) fun _ => ev_andV (cq (u := .rows) hA rfl rfl) fun _ => ev_andV (ci rfl) fun _ => ci rfl) fun H1 e1 => ?_
    have hw : (decide (A.wh = .cols) && (decide (V.int t = V.int 1) && decide (V.int b = V.int 1000000)) || decide (A.wh = .rows) && (decide (V.int l = V.int 1) && decide (V.int r = V.int 18278))) = decide ((A.wh = .cols ∧ t = 1 ∧ b = 1000000) ∨ (A.wh = .rows ∧ l = 1 ∧ r = 18278)) := by
      rw [Bool.eq_iff_iff]
      simp
    have ew : Ev (tIf (tB (tVar 5)) (tFld K (tVar 0) "whole") (tC .non)) [some (.ref a), some (.int t), some (.int l), some (.int b), some (.int r), some (.bl (decide (A.wh = .cols) && (decide (V.int t = V.int 1) && decide (V.int b = V.int 1000000)) || decide (A.wh = .rows) && (decide (V.int l = V.int 1) && decide (V.int r = V.int 18278))))] H1 (whV (partWh A t l b r)) := by
      refine TX.ev_if (et_is (et_B (ev_var rfl)) hw) (fun hb => ?_) (fun hb => ?_)
      · unfold partWh
        rw [if_pos (of_decide_eq_true hb)]
        exact (flde TA TR (hA.ex e1) rfl).wh
      · unfold partWh
        rw [if_neg (of_decide_eq_false hb)]
        exact ev_c
    have nb : (part A t l b r).norm = part A t l b r := norm_bare h1 h2 (fun z => by
      unfold partWh at z
      split at z
      · rename_i hc
        rcases hc with hc | hc
        · exact hc.2
        · rw [hc.1] at z
          cases z
      · cases z) (fun z => by
      unfold partWh at z
      split at z
      · rename_i hc
        rcases hc with hc | hc
        · rw [hc.1] at z
          cases z
        · exact hc.2
      · cases z)
    refine q_retQ (R := AreaR p.CA pa.C (part A t l b r).norm) (evq_call (eaq_of (ea_cons (ev_var rfl) (ea_cons (ev_var rfl) (ea_cons (ev_var rfl) (ea_cons (ev_var rfl) (ea_cons (flde TA TR (hA.ex e1) rfl).sh (ea_cons ew ea_nil))))))) fun vs H2 e2 hv Q q => ?_) fun v H7 e7 r => ?_
    · subst hv
      exact ⟨_, _, _, _, _, _, rfl, g1, g2, nA.on.so, nA.on.sg, fun x H8 e8 h8 => q _ H8 e8 ⟨x, rfl, h8⟩⟩
    · rw [nb] at r
      obtain ⟨x, rfl, hx⟩ := r
      exact k x H7 (e1.trans e7) hx
end
end K18

set_option Elab.async false
set_option linter.all false
set_option maxRecDepth 100000
set_option maxHeartbeats 4000000
namespace K18
open PySem PySem.Spec PyProof.Rows L2 Pen EV2 Evl TX LamX
/-- instances stay -/
def KpN (H H' : Hp) : Prop := ∀ a C dx fs, H a = some (.ins C dx fs) → H' a = some (.ins C dx fs)
theorem KpN.trans {H H1 H2 : Hp} (a : KpN H H1) (b : KpN H1 H2) : KpN H H2 := fun x C dx fs h => b x C dx fs (a x C dx fs h)
theorem kpn_ex {H H' : Hp} (e : Ex H H') : KpN H H' := fun x C dx fs h => e _ _ h
theorem kpn_sibL {H H' : Hp} {l : Addr} {xs : List V} (hl : H l = some (.lst xs)) (e : Sib l H H') : KpN H H' := fun x C dx fs h => e _ _ (ne_of h hl (by intro z; cases z)) h
theorem AdrAt.kp {C : Addr} {H H' : Hp} {a : Addr} {r c : Int × Bool} {sh : Option (List Nat)} (h : AdrAt C H a r c sh) (k : KpN H H') : AdrAt C H' a r c sh := let ⟨d, q⟩ := h; ⟨d, k _ _ _ _ q⟩
theorem AreaAt.kp {CA C : Addr} {H H' : Hp} {a : Addr} {A : Ar} (h : AreaAt CA C H a A) (k : KpN H H') : AreaAt CA C H' a A := let ⟨dx, a1, a2, h1, h2, h3⟩ := h; ⟨dx, a1, a2, k _ _ _ _ h1, h2.kp k, h3.kp k⟩
theorem kpn_put {H : Hp} {D : Addr} {xs ys : List V} (h : H D = some (.lst xs)) : KpN H (upd H D (.lst ys)) := fun x C dx fs hx => by
  rw [upd_ne (ne_of hx h (by intro z; cases z))]
  exact hx
theorem stay_area {CA C : Addr} {A : Ar} : StayL (AreaR CA C A) := fun v H D xs ys h ⟨a, h1, h2⟩ => ⟨a, h1, h2.kp (kpn_put h)⟩
theorem stay_adr {C : Addr} {r c : Int × Bool} {sh : Option (List Nat)} : StayL (AdrR C r c sh) := fun v H D xs ys h ⟨a, h1, h2⟩ => ⟨a, h1, h2.kp (kpn_put h)⟩
/-- areas, one by one -/
def AreasAt (CA C : Addr) (H : Hp) : List V → List Ar → Prop
  | [], [] => True
  | v :: vs, A :: As => AreaR CA C A v H ∧ AreasAt CA C H vs As
  | _, _ => False
theorem AreasAt.kp {CA C : Addr} {H H' : Hp} (k : KpN H H') : ∀ {vs : List V} {As : List Ar}, AreasAt CA C H vs As → AreasAt CA C H' vs As
  | [], [], _ => trivial
  | v :: vs, A :: As, ⟨⟨a, h1, h2⟩, h⟩ => ⟨⟨a, h1, h2.kp k⟩, h.kp k⟩
  | [], _ :: _, h => h.elim
  | _ :: _, [], h => h.elim
theorem AreasAt.snoc {CA C : Addr} {H : Hp} {v : V} {A : Ar} (r : AreaR CA C A v H) : ∀ {vs : List V} {As : List Ar}, AreasAt CA C H vs As → AreasAt CA C H (vs ++ [v]) (As ++ [A])
  | [], [], _ => ⟨r, trivial⟩
  | w :: vs, B :: As, ⟨h0, h⟩ => ⟨h0, h.snoc r⟩
  | [], _ :: _, h => h.elim
  | _ :: _, [], h => h.elim
theorem AreasAt.len {CA C : Addr} {H : Hp} : ∀ {vs : List V} {As : List Ar}, AreasAt CA C H vs As → vs.length = As.length
  | [], [], _ => rfl
  | _ :: _, _ :: _, ⟨_, h⟩ => by rw [List.length_cons, List.length_cons, h.len]
  | [], _ :: _, h => h.elim
  | _ :: _, [], h => h.elim
def ifL (b : Bool) (A : Ar) : List Ar := if b then [A] else []
/-- the parts of the one that the hole leaves -/
def lefts (A : Ar) : Option Ar → List Ar
  | none => [part A A.ro.1.1 A.co.1.1 A.ro.2.1 A.co.2.1]
  | some M => ifL (decide (A.ro.1.1 < M.ro.1.1)) (part A A.ro.1.1 A.co.1.1 (M.ro.1.1 - 1) A.co.2.1) ++ ifL (decide (M.ro.2.1 < A.ro.2.1)) (part A (M.ro.2.1 + 1) A.co.1.1 A.ro.2.1 A.co.2.1) ++
      ifL (decide (A.co.1.1 < M.co.1.1)) (part A M.ro.1.1 A.co.1.1 M.ro.2.1 (M.co.1.1 - 1)) ++ ifL (decide (M.co.2.1 < A.co.2.1)) (part A M.ro.1.1 (M.co.2.1 + 1) M.ro.2.1 A.co.2.1)
def spWithout (CA C : Addr) : Sp := fun vs H Q _ => ∃ (a b : Addr) (A B : Ar), vs = [.ref a, .ref b] ∧ AreaAt CA C H a A ∧ A.Nm ∧ AreaAt CA C H b B ∧ B.Nm ∧
  ∀ (u : Addr) (xs : List V) (H' : Hp), Same H H' → H' u = some (.tup xs) → AreasAt CA C H' xs (lefts A (comAr A B)) → Q (.ref u) H'
def spCells (C CM : Addr) (CA : Addr) : Sp := fun vs H Q E => ∃ (a : Addr) (A : Ar), vs = [.ref a] ∧ AreaAt CA C H a A ∧ A.Nm ∧ (A.ht * A.wd > 10000 → bad CM "most" H (.int 10000) E) ∧
  (A.ht * A.wd ≤ 10000 → ∀ (u : Addr) (xs : List V) (H' : Hp), Same H H' → H' u = some (.tup xs) → xs.length = A.ht.toNat * A.wd.toNat → (∀ k v, xs[k]? = some v → AdrR C (A.ro.1.1 + ((k / A.wd.toNat : Nat) : Int), false) (A.co.1.1 + ((k % A.wd.toNat : Nat) : Int), false) A.sh v H') → Q (.ref u) H')
section
variable {P : Program} {w : World} {K : PySem.W.Frag} {mg : Str → Option Value} {base : Heap} {pc : Ads} {pg : AdG} {pa : AdC} {D : Addr} {p : AdR} {mv : List Value}

theorem ok_Area_without (TC : TxtC K mg pc) (TG : TxtG K mg pg) (TA : TxtA6 K mg pc.S pa) (Z : TxtB K mg pa D) (TR : TxtR K mg p) (MK : TxtK K pa p mv) : FnOk P w K mg base (L2.CX P w) 14 p.m_without p.e_without P_Area_without (spWithout p.CA pa.C) := by
  have G_check_area : FnOk P w K mg base (L2.CX P w) 3 p.f_check_area p.d_check_area P_check_area (spChk K p.CA pc.CB) := ok_check_area TC TR
  have G_Area_common : FnOk P w K mg base (L2.CX P w) 12 p.m_common p.e_common P_Area_common (spCommon K p.CA pa.C pc.CB) := ok_Area_common TC TG TA Z TR MK
  have G_Area_part : FnOk P w K mg base (L2.CX P w) 12 p.m_part p.e_part P_Area__part (spPart p.CA pa.C) := ok_Area_part TC TG TA Z TR MK
  refine TR.F_without.okX sc_Area_without (fun vs H Q E h => ?_) (fun cdv A outer s H vs Q E hr h => ?_)
  · obtain ⟨a, b, A, B, rfl, _⟩ := h
    rfl
  · obtain ⟨a, b, A, B, rfl, hA, nA, hB, nB, k⟩ := h
    refine ⟨_, (pss_cons (ps_expr (pe_call G_check_area (hr.mono (by decide)) (by rfl) TR.mg_check_area TR.F_check_area.kp TR.b_check_area .nil (passes_call (takes_of rfl rfl rfl rfl) fun _ _ _ _ h => h) (pa_cons (pv 1) pa_nil)))
      (pss_cons (ps_set (i := 2) sc_Area_without.nd rfl (Or.inl rfl) (pe_meth (pv 0) TR.cl TR.h_common G_Area_common (hr.mono (by decide)) TR.b_common .nil (passes_call (takes_of rfl rfl rfl rfl) fun _ _ _ _ h => h) (pa_cons (pv 1) pa_nil)))
      (pss_cons (ps_par (i := 3) (j := 4) (by rfl) sc_Area_without.nd rfl rfl (by decide) rfl rfl (pa_cons (pe_fld (pe_fld (pv 0) rfl) rfl) (pa_cons (pe_fld (pe_fld (pv 0) rfl) rfl) pa_nil)) (by rfl))
      (pss_cons (ps_par (i := 5) (j := 6) (by rfl) sc_Area_without.nd rfl rfl (by decide) rfl rfl (pa_cons (pe_fld (pe_fld (pv 0) rfl) rfl) (pa_cons (pe_fld (pe_fld (pv 0) rfl) rfl) pa_nil)) (by rfl))
      (pss_cons (ps_if (pt_cmpR op_isN1 (pv 2) pe_non (nomark _)) (pss_one (ps_ret (pe_tup (pa_cons (pe_meth (pv 0) TR.cl TR.h_part G_Area_part (hr.mono (by decide)) TR.b_part .nil (passes_call (takes_of rfl rfl rfl rfl) fun _ _ _ _ h => h) (pa_cons (pv 3) (pa_cons (pv 5) (pa_cons (pv 4) (pa_cons (pv 6) pa_nil))))) pa_nil)))) pss_nil)
      (pss_cons (ps_set (i := 7) sc_Area_without.nd rfl (Or.inl rfl) (pe_lst pa_nil))
      (pss_cons (ps_if (pt_cmpR op_lt (pv 3) (pe_fld (pe_fld (pv 2) rfl) rfl) (nomark _)) (pss_one (ps_expr (pe_bm PySem.F.plainAttrs_list PySem.F.slot_list_append PySem.F.type_list_append mt_append (pv 7) (pa_cons (pe_meth (pv 0) TR.cl TR.h_part G_Area_part (hr.mono (by decide)) TR.b_part .nil (passes_call (takes_of rfl rfl rfl rfl) fun _ _ _ _ h => h) (pa_cons (pv 3) (pa_cons (pv 5) (pa_cons (pe_op op_sub (pe_fld (pe_fld (pv 2) rfl) rfl) pe_int) (pa_cons (pv 6) pa_nil))))) pa_nil)))) pss_nil)
      (pss_cons (ps_if (pt_cmpR op_lt (pe_fld (pe_fld (pv 2) rfl) rfl) (pv 4) (nomark _)) (pss_one (ps_expr (pe_bm PySem.F.plainAttrs_list PySem.F.slot_list_append PySem.F.type_list_append mt_append (pv 7) (pa_cons (pe_meth (pv 0) TR.cl TR.h_part G_Area_part (hr.mono (by decide)) TR.b_part .nil (passes_call (takes_of rfl rfl rfl rfl) fun _ _ _ _ h => h) (pa_cons (pe_op op_add (pe_fld (pe_fld (pv 2) rfl) rfl) pe_int) (pa_cons (pv 5) (pa_cons (pv 4) (pa_cons (pv 6) pa_nil))))) pa_nil)))) pss_nil)
      (pss_cons (ps_if (pt_cmpR op_lt (pv 5) (pe_fld (pe_fld (pv 2) rfl) rfl) (nomark _)) (pss_one (ps_expr (pe_bm PySem.F.plainAttrs_list PySem.F.slot_list_append PySem.F.type_list_append mt_append (pv 7) (pa_cons (pe_meth (pv 0) TR.cl TR.h_part G_Area_part (hr.mono (by decide)) TR.b_part .nil (passes_call (takes_of rfl rfl rfl rfl) fun _ _ _ _ h => h) (pa_cons (pe_fld (pe_fld (pv 2) rfl) rfl) (pa_cons (pv 5) (pa_cons (pe_fld (pe_fld (pv 2) rfl) rfl) (pa_cons (pe_op op_sub (pe_fld (pe_fld (pv 2) rfl) rfl) pe_int) pa_nil))))) pa_nil)))) pss_nil)
      (pss_cons (ps_if (pt_cmpR op_lt (pe_fld (pe_fld (pv 2) rfl) rfl) (pv 6) (nomark _)) (pss_one (ps_expr (pe_bm PySem.F.plainAttrs_list PySem.F.slot_list_append PySem.F.type_list_append mt_append (pv 7) (pa_cons (pe_meth (pv 0) TR.cl TR.h_part G_Area_part (hr.mono (by decide)) TR.b_part .nil (passes_call (takes_of rfl rfl rfl rfl) fun _ _ _ _ h => h) (pa_cons (pe_fld (pe_fld (pv 2) rfl) rfl) (pa_cons (pe_op op_add (pe_fld (pe_fld (pv 2) rfl) rfl) pe_int) (pa_cons (pe_fld (pe_fld (pv 2) rfl) rfl) (pa_cons (pv 6) pa_nil))))) pa_nil)))) pss_nil)
      (pss_one (ps_ret (pe_callTy (T := "tuple") call_tuple_of (by rfl) TR.n_tuple (by decide +kernel) (pa_cons (pv 7) pa_nil)))))))))))))), ?_⟩
    have me : PySem.W.kitOne K (.ref p.CA) (.ref p.CA) = some true := by
      unfold PySem.W.kitOne
      rw [if_pos (by simp)]
    have nl : ∀ {f : Str} {a1 a2 : Addr}, (f = "common" ∨ f = "_part") → (afl a1 a2 A).lookup f = none := fun {f a1 a2} h => by
      rcases h with rfl | rfl <;> rfl
    refine q_drop (v := .non) (fun H1 e Q q => ⟨_, rfl, .ref b, .ref p.CA, true, rfl, fun H2 e2 => area_ty TR ((hB.ex e).ex e2), me, fun _ H' s => q H' s, fun z => nomatch z⟩) fun H1 e1 => ?_
    have hA1 := hA.ex e1
    have hB1 := hB.ex e1
    refine q_asgQ (i := 2) (R := OptR p.CA pa.C (comAr A B)) (fun H2 e2 Q q => ?_) fun vm H2 e2 hm => ?_
    · obtain ⟨dx, a1, a2, h1, h2, h3⟩ := hA1.ex e2
      exact ⟨_, rfl, a, dx, _, rfl, h1, nl (.inl rfl), _, rfl, a, .ref b, A, rfl, ⟨dx, a1, a2, h1, h2, h3⟩, nA, .inl ⟨b, B, rfl, hB1.ex e2, nB, fun v H3 e3 r => q v H3 e3 r⟩⟩
    have hA2 := hA1.ex e2
    refine q_parT (v := .int A.ro.1.1) (w := .int A.ro.2.1) (ea_cons (flde TA TR hA2 rfl).r1 (ea_cons (flde TA TR hA2 rfl).r2 ea_nil)) fun H3 e3 => ?_
    have hA3 := hA2.ex e3
    refine q_parT (v := .int A.co.1.1) (w := .int A.co.2.1) (ea_cons (flde TA TR hA3 rfl).c1 (ea_cons (flde TA TR hA3 rfl).c2 ea_nil)) fun H4 e4 => ?_
    have hA4 := hA3.ex e4
    have e14 := ((e1.trans e2).trans e3).trans e4
    have hm4 := mon_opt _ _ _ _ (e3.trans e4) hm
    have pt : ∀ {σ : L2.St} {H' : Hp} {t l b r : Int} {tq : L2.TA}, σ[0]? = some (some (.ref a)) → AreaAt p.CA pa.C H' a A → EvA tq σ H' [.int t, .int l, .int b, .int r] → inG (t, false) (l, false) → inG (b, false) (r, false) → t ≤ b → l ≤ r → EvQ (tMeth p.CA "_part" (spPart p.CA pa.C) [] E (tVar 0) tq) σ H' (AreaR p.CA pa.C (part A t l b r)) := fun {σ H' t l b r tq} h0 ha hv g1 g2 le1 le2 H1 e1 Q q => by
      obtain ⟨dx, a1, a2, h1, h2, h3⟩ := ha.ex e1
      refine ⟨_, h0, a, dx, _, rfl, h1, nl (.inr rfl), hv H1 e1 _ fun H2 e2 => ?_⟩
      exact ⟨a, A, t, l, b, r, rfl, ⟨dx, a1, a2, e2 _ _ h1, h2.ex e2, h3.ex e2⟩, nA, g1, g2, le1, le2, fun x H3 e3 hx => q _ H3 (e2.trans e3) ⟨x, rfl, hx⟩⟩
    have ga := nA.on.a
    have gb := nA.on.b
    unfold inG at ga gb
    cases hc : comAr A B with
    | none =>
      rw [hc] at hm4 k
      obtain rfl : vm = .non := hm4
      refine q_when (b := true) (et_test (ev_op (ev_var (v := .non) rfl) ev_c fun H5 _ Q q => ⟨rfl, q H5 (Ex.refl H5)⟩)) (fun _ H5 e5 => ?_) (fun z => nomatch z)
      refine q_retQ (evq_tup (eaq_cons (pt rfl (hA4.ex e5) (ea_cons (ev_var rfl) (ea_cons (ev_var rfl) (ea_cons (ev_var rfl) (ea_cons (ev_var rfl) ea_nil)))) nA.on.a nA.on.b nA.r nA.c) eaq_nil mon_area) (fun vs _ ⟨v, ws, h1, _, h2⟩ => by rw [h1, h2]; show 1 ≤ 100000; decide) (fun vs H H' e ⟨v, ws, h1, h2, h3⟩ => ⟨v, ws, h1, mon_area _ _ _ e h2, h3⟩)) fun v H6 e6 ⟨u, vs, hv, hu, w, ws, h1, h2, h3⟩ => ?_
      subst hv h1 h3
      exact k u _ H6 (e14.trans (e5.trans e6)) hu ⟨h2, trivial⟩
    | some M =>
      rw [hc] at hm4 k
      obtain ⟨m, rfl, hM⟩ := hm4
      obtain ⟨nM, m1, m2, m3, m4, _⟩ := comAr_in hc nA nB
      have gm := nM.on.a
      have gn := nM.on.b
      have gr := nM.r
      have gc := nM.c
      unfold inG at gm gn
      refine q_when (b := false) (et_test (ev_op (ev_var (v := .ref m) rfl) ev_c fun H5 _ Q q => ⟨rfl, q H5 (Ex.refl H5)⟩)) (fun z => nomatch z) fun _ H5 e5 => ?_
      refine q_asgL (xs := []) (fun H6 e6 Q q => ⟨by decide, fun l nl => q l _ nl (Ex.new nl) upd_same⟩) fun l H6 nl e6 hl => ?_
      have ex6 := (e14.trans e5).trans e6
      have hA6 := (hA4.ex e5).ex e6
      have hM6 := (hM.ex e5).ex e6
      have nl0 : H l = none := fresh_back (e14.trans e5) nl
      -- four times: a part put behind, or not
      have step : ∀ {σ : L2.St} {H0 : Hp} {tt : TT} {te : TE} {tz : TS} {Dd : Ends} {b : Bool} {X : Ar} {xs : List V} {As : List Ar}, σ[7]? = some (some (.ref l)) → H0 l = some (.lst xs) → xs.length < 100000 → Ex H H0 → AreaAt p.CA pa.C H0 a A → AreaAt p.CA pa.C H0 m M → AreasAt p.CA pa.C H0 xs As → EvT tt σ H0 b → (b = true → EvQ te σ H0 (AreaR p.CA pa.C X)) →
          (∀ H1 ys, H1 l = some (.lst ys) → ys.length ≤ xs.length + 1 → Ex H H1 → AreaAt p.CA pa.C H1 a A → AreaAt p.CA pa.C H1 m M → AreasAt p.CA pa.C H1 ys (As ++ ifL b X) → tz Dd σ H1) → tSeq (tIfS tt (tDrop (tBM K "list" rAppend (tVar 7) (tCons te tNil))) tNext) tz Dd σ H0 := fun {σ H0 tt te tz Dd b X xs As} h7 hl hz eH ha hm hAs ht he kk => by
        refine q_ifApp (R := AreaR p.CA pa.C X) ht hl (ev_var h7) hz he stay_area (fun hb v H1 s1 hl1 r => ?_) (fun hb H1 e1 => ?_)
        · have kp := kpn_sibL hl s1
          refine kk H1 (xs ++ [v]) hl1 (by simp) (fun x o hx => s1 _ _ (ne_of_none hx nl0) (eH _ _ hx)) (ha.kp kp) (hm.kp kp) ?_
          rw [hb]
          exact (hAs.kp kp).snoc r
        · refine kk H1 xs (e1 _ _ hl) (Nat.le_succ _) (eH.trans e1) (ha.ex e1) (hm.ex e1) ?_
          rw [hb]
          show AreasAt _ _ _ _ (As ++ [])
          rw [List.append_nil]
          exact hAs.kp (kpn_ex e1)
      refine step (X := part A A.ro.1.1 A.co.1.1 (M.ro.1.1 - 1) A.co.2.1) (As := []) rfl hl (by decide) ex6 hA6 hM6 trivial (et_test (ev_op (ev_var rfl) (flde TA TR hM6 rfl).r1 rv_I0)) (fun hb => ?_) fun H7 xs7 hl7 le7 ex7 hA7 hM7 hs7 => ?_
      · have hb := of_decide_eq_true hb
        exact pt rfl hA6 (ea_cons (ev_var rfl) (ea_cons (ev_var rfl) (ea_cons (ev_op (flde TA TR hM6 rfl).r1 ev_c rv_I0) (ea_cons (ev_var rfl) ea_nil)))) ⟨ga.1, ga.2⟩ ⟨⟨by show 1 ≤ M.ro.1.1 - 1; omega, by show M.ro.1.1 - 1 ≤ 1000000; omega⟩, gb.2⟩ (by omega) nA.c
      refine step (X := part A (M.ro.2.1 + 1) A.co.1.1 A.ro.2.1 A.co.2.1) rfl hl7 (by have : xs7.length ≤ 1 := le7; omega) ex7 hA7 hM7 hs7 (et_test (ev_op (flde TA TR hM7 rfl).r2 (ev_var rfl) rv_I0)) (fun hb => ?_) fun H8 xs8 hl8 le8 ex8 hA8 hM8 hs8 => ?_
      · have hb := of_decide_eq_true hb
        exact pt rfl hA7 (ea_cons (ev_op (flde TA TR hM7 rfl).r2 ev_c rv_I0) (ea_cons (ev_var rfl) (ea_cons (ev_var rfl) (ea_cons (ev_var rfl) ea_nil)))) ⟨⟨by show 1 ≤ M.ro.2.1 + 1; omega, by show M.ro.2.1 + 1 ≤ 1000000; omega⟩, ga.2⟩ ⟨gb.1, gb.2⟩ (by omega) nA.c
      refine step (X := part A M.ro.1.1 A.co.1.1 M.ro.2.1 (M.co.1.1 - 1)) rfl hl8 (by have : xs7.length ≤ 1 := le7; omega) ex8 hA8 hM8 hs8 (et_test (ev_op (ev_var rfl) (flde TA TR hM8 rfl).c1 rv_I0)) (fun hb => ?_) fun H9 xs9 hl9 le9 ex9 hA9 hM9 hs9 => ?_
      · have hb := of_decide_eq_true hb
        exact pt rfl hA8 (ea_cons (flde TA TR hM8 rfl).r1 (ea_cons (ev_var rfl) (ea_cons (flde TA TR hM8 rfl).r2 (ea_cons (ev_op (flde TA TR hM8 rfl).c1 ev_c rv_I0) ea_nil)))) ⟨gm.1, ga.2⟩ ⟨gn.1, by show 1 ≤ M.co.1.1 - 1; omega, by show M.co.1.1 - 1 ≤ 18278; omega⟩ gr (by omega)
      refine step (X := part A M.ro.1.1 (M.co.2.1 + 1) M.ro.2.1 A.co.2.1) rfl hl9 (by have : xs7.length ≤ 1 := le7; omega) ex9 hA9 hM9 hs9 (et_test (ev_op (flde TA TR hM9 rfl).c2 (ev_var rfl) rv_I0)) (fun hb => ?_) fun Ha xsa hla lea exa hAa hMa hsa => ?_
      · have hb := of_decide_eq_true hb
        exact pt rfl hA9 (ea_cons (flde TA TR hM9 rfl).r1 (ea_cons (ev_op (flde TA TR hM9 rfl).c2 ev_c rv_I0) (ea_cons (flde TA TR hM9 rfl).r2 (ea_cons (ev_var rfl) ea_nil)))) ⟨gm.1, by show 1 ≤ M.co.2.1 + 1; omega, by show M.co.2.1 + 1 ≤ 18278; omega⟩ ⟨gn.1, gb.2⟩ gr (by omega)
      refine ⟨_, rfl, l, xsa, rfl, .inl ⟨sq_of hla, fun u nu => ?_⟩⟩
      refine k u xsa _ (exa.trans (Ex.new nu)) upd_same (AreasAt.kp (kpn_ex (Ex.new nu)) ?_)
      rw [List.nil_append] at hsa
      exact hsa
end
end K18

set_option Elab.async false
set_option linter.all false
set_option maxRecDepth 100000
set_option maxHeartbeats 4000000
namespace K18
open PySem PySem.Spec PyProof.Rows L2 Pen EV2 Evl TX LamX
section
variable {P : Program} {w : World} {K : PySem.W.Frag} {mg : Str → Option Value} {base : Heap} {pc : Ads} {pg : AdG} {pa : AdC} {D : Addr} {p : AdR} {mv : List Value} {CO CM iO iM : Addr} {dO dM : FuncData}
theorem ok_Area_cells (TC : TxtC K mg pc) (TG : TxtG K mg pg) (TA : TxtA6 K mg pc.S pa) (Z : TxtB K mg pa D) (TR : TxtR K mg p) (MK : TxtK K pa p mv) (TM : TxtT K mg pc CO CM iO iM dO dM) : FnOk P w K mg base (L2.CX P w) 8 p.m_cells p.e_cells P_Area_cells (spCells pa.C CM p.CA) := by
  obtain ⟨tM, hMOST⟩ := TR.mg_MOST_CELLS
  refine TR.F_cells.okX sc_Area_cells (fun vs H Q E h => ?_) (fun cdv A outer s H vs Q E hr h => ?_)
  · obtain ⟨a, A, rfl, _⟩ := h
    rfl
  · obtain ⟨a, A, rfl, hA, nA, kb, kg⟩ := h
    refine ⟨_, (pss_cons (ps_if (pt_cmpR op_gt (pe_op op_mul (pe_fld (pv 0) rfl) (pe_fld (pv 0) rfl)) (pe_glob (v := .int 10000) (by rfl) hMOST ⟨_, rfl⟩) (nomark _)) (pss_one (ps_raise rfl (takes_of rfl rfl rfl rfl) (pmk_R (n := 1) TM.M.ec (ok_TooMany_init TM.M.F TM.M.ec.ox TM.M.no) (hr.mono (by decide)) (by rfl) TM.M.gC (kp_TooMany_init TM.M.F) hx0 (pa_cons (pe_glob (v := .int 10000) (by rfl) hMOST ⟨_, rfl⟩) pa_nil)))) pss_nil)
      (pss_one (ps_ret (pe_callTy (T := "tuple") call_tuple_of (by rfl) TR.n_tuple (by decide +kernel) (pa_cons (pe_lc2 (own := [("row", 1), ("column", 2)]) (vs1 := [2]) (g := gName 1) (g1 := gName 2) (tt := tYes) (tt1 := tYes) rfl sc_Area_cells.nd (pi_range2 (by rfl) TR.n_range (pa_cons (pe_fld (pe_fld (pv 0) rfl) rfl) (pa_cons (pe_op op_add (pe_fld (pe_fld (pv 0) rfl) rfl) pe_int) pa_nil))) (blkOk_by (own := [("row", 1), ("column", 2)]) (N := N_Area_cells) (sc := defScope s_Area_cells) (by decide +kernel)) (by decide) (fun _ _ _ _ _ => pg_name (i := 1) sc_Area_cells.nd rfl (Or.inl rfl)) (fun _ _ _ _ _ => pts_nil) (fun _ _ _ _ _ => by exact (pi_range2 (by rfl) TR.n_range (pa_cons (pe_fldK (K := K) (pe_fldK (K := K) (pv 0) rfl rfl) rfl rfl) (pa_cons (pe_op op_add (pe_fldK (K := K) (pe_fldK (K := K) (pv 0) rfl rfl) rfl rfl) pe_int) pa_nil)))) (fun _ _ _ _ _ => pg_name (i := 2) sc_Area_cells.nd rfl (Or.inl rfl)) (fun _ _ _ _ _ => pts_nil) (fun _ _ _ _ _ => by exact (pe_makeK (n := 2) Z.mkA (ok_Address_init TC TG TA) (hr.mono (by decide)) (by rfl) TA.mg_Address MK.kb1 (passF (P := P) (w := w)) (pa_cons (pv 1) (pa_cons (pv 2) pa_nil)) (pk_cons (pe_fldK (K := K) (pv 0) rfl rfl) pk_nil)))) pa_nil))))), ?_⟩
    have ga := nA.on.a
    have gb := nA.on.b
    have r1 := nA.r
    have c1 := nA.c
    unfold inG at ga gb
    refine q_when (et_test (ev_op (ev_op (flde TA TR hA rfl).ht (flde TA TR hA rfl).wd (rv_I (by unfold CMul Ar.ht; omega))) ev_c rv_I0)) (fun hb H1 e1 => ?_) (fun hb H1 e1 => ?_)
    · exact ⟨rfl, rfl, by decide, rr_e1 (Q := E) fun d H' nd sm hd => ((kb (of_decide_eq_true hb)).at e1) d H' sm nd hd⟩
    have hle : A.ht * A.wd ≤ 10000 := by
      have := of_decide_eq_false hb
      omega
    have hh : 0 ≤ A.ht := by unfold Ar.ht; omega
    have hw : 0 ≤ A.wd := by unfold Ar.wd; omega
    have hA1 := hA.ex e1
    have hz : A.ht.toNat * A.wd.toNat ≤ 100000 := by
      have h1 : ((A.ht.toNat * A.wd.toNat : Nat) : Int) = A.ht * A.wd := by
        rw [Int.natCast_mul, Int.toNat_of_nonneg hh, Int.toNat_of_nonneg hw]
      omega
    have hn : (A.ro.2.1 + 1 - A.ro.1.1).toNat = A.ht.toNat := by unfold Ar.ht; omega
    have hn1 : (A.co.2.1 + 1 - A.co.1.1).toNat = A.wd.toNat := by unfold Ar.wd; omega
    have main : EvQ (tLc2 _ (gName 1) tYes _ (gName 2) tYes _ [1, 2] [2]) [some (.ref a), none, none] H1 _ := evq_lc2 (tb := tCons (tFld K (tFld K (tVar 0) "first") "column") (tCons (tOp (rI0 fun i j => .int (i + j)) (tFld K (tFld K (tVar 0) "last") "column") (tC (.int 1))) tNil)) (ta := tCons (tFld K (tFld K (tVar 0) "first") "row") (tCons (tOp (rI0 fun i j => .int (i + j)) (tFld K (tFld K (tVar 0) "last") "row") (tC (.int 1))) tNil)) (te := tMakeK pa.C 2 1 (spInit K pa pc.CB) (fun vs zs => vs ++ [.bl false, .bl false] ++ zs) E0 (tCons (tVar 1) (tCons (tVar 2) tNil)) (tCons (tFld K (tVar 0) "sheet") tNil)) (R := fun k => AdrR pa.C (A.ro.1.1 + ((k / A.wd.toNat : Nat) : Int), false) (A.co.1.1 + ((k % A.wd.toNat : Nat) : Int), false) A.sh) (a := 1) (b := 2)
      (ea_cons (flde TA TR hA1 rfl).r1 (ea_cons (ev_op (flde TA TR hA1 rfl).r2 ev_c rv_I0) ea_nil)) hn hn1 (by omega) (by omega)
      (fun i hi H' e' => ea_cons (flde TA TR (hA1.ex e') rfl).c1 (ea_cons (ev_op (flde TA TR (hA1.ex e') rfl).c2 ev_c rv_I0) ea_nil)) hz
      (fun i j hi hj H' e' => by
        have h1 : (i * A.wd.toNat + j) / A.wd.toNat = i := by
          rw [Nat.mul_comm, Nat.mul_add_div (by omega), Nat.div_eq_of_lt hj, Nat.add_zero]
        have h2 : (i * A.wd.toNat + j) % A.wd.toNat = j := by
          rw [Nat.mul_comm, Nat.mul_add_mod, Nat.mod_eq_of_lt hj]
        rw [h1, h2]
        have gg : inG (A.ro.1.1 + (i : Int), false) (A.co.1.1 + (j : Int), false) := by
          unfold inG
          rw [← hn] at hi
          rw [← hn1] at hj
          dsimp only
          omega
        exact evq_adr (CB := pc.CB) (ea_cons (ev_var rfl) (ea_cons (ev_var rfl) ea_nil)) (ea_cons (flde TA TR (hA1.ex e') rfl).sh ea_nil) nA.on.so nA.on.sg gg)
      (fun v => rfl) (fun v w => rfl) (fun _ => mon_adr) (fun _ => stay_adr)
    refine q_retCB main fun v H2 e2 ⟨l, xs, hv, hl, hln, hx⟩ => ?_
    subst hv
    exact ⟨l, xs, rfl, .inl ⟨sq_of hl, fun u nu => kg hle u xs _ ((e1.trans e2).trans (Ex.new nu)) upd_same hln fun k v hk => mon_adr _ _ _ (Ex.new nu) (hx k v hk)⟩⟩
end
end K18

set_option Elab.async false
set_option linter.all false
set_option maxRecDepth 100000
set_option maxHeartbeats 4000000
namespace K18
open PySem PySem.Spec PyProof.Rows L2 Pen EV2 Evl TX LamX
abbrev s_l_corners : Stmt := topS 69
abbrev N_l_corners : List Str := ["_law_pen_here", "_law_base", "_law_high", "_law_rows", "_law_columns", "_law_turn"]
abbrev P_l_corners : List Str := ["_law_pen_here", "_law_base"]
theorem sc_l_corners : FnScope N_l_corners P_l_corners (defScope s_l_corners) := ⟨rfl, rfl, rfl, by decide +kernel, rfl, by decide +kernel, by decide +kernel⟩
abbrev s_l_in_order : Stmt := topS 70
abbrev N_l_in_order : List Str := ["_law_pairs"]
abbrev P_l_in_order : List Str := ["_law_pairs"]
theorem sc_l_in_order : FnScope N_l_in_order P_l_in_order (defScope s_l_in_order) := ⟨rfl, rfl, rfl, by decide +kernel, rfl, by decide +kernel, by decide +kernel⟩
abbrev s_l_area : Stmt := topS 71
abbrev N_l_area : List Str := ["_law_pen_here", "_law_base", "_law_sheets", "_law_rows", "_law_columns", "_law_whole"]
abbrev P_l_area : List Str := ["_law_pen_here", "_law_base", "_law_sheets"]
theorem sc_l_area : FnScope N_l_area P_l_area (defScope s_l_area) := ⟨rfl, rfl, rfl, by decide +kernel, rfl, by decide +kernel, by decide +kernel⟩
abbrev s_l_normal : Stmt := topS 72
abbrev N_l_normal : List Str := ["_law_area_here", "_law_rows", "_law_columns", "_law_whole", "_law_sheet"]
abbrev P_l_normal : List Str := ["_law_area_here"]
theorem sc_l_normal : FnScope N_l_normal P_l_normal (defScope s_l_normal) := ⟨rfl, rfl, rfl, by decide +kernel, rfl, by decide +kernel, by decide +kernel⟩
abbrev s_l_corner : Stmt := topS 73
abbrev N_l_corner : List Str := ["_law_area_here", "_law_at", "_law_rows", "_law_columns", "_law_whole", "_law_sheet"]
abbrev P_l_corner : List Str := ["_law_area_here", "_law_at"]
theorem sc_l_corner : FnScope N_l_corner P_l_corner (defScope s_l_corner) := ⟨rfl, rfl, rfl, by decide +kernel, rfl, by decide +kernel, by decide +kernel⟩
abbrev s_l_area_made : Stmt := topS 74
abbrev N_l_area_made : List Str := ["_law_area_here"]
abbrev P_l_area_made : List Str := ["_law_area_here"]
theorem sc_l_area_made : FnScope N_l_area_made P_l_area_made (defScope s_l_area_made) := ⟨rfl, rfl, rfl, by decide +kernel, rfl, by decide +kernel, by decide +kernel⟩
abbrev s_l_is_area : Stmt := topS 75
abbrev N_l_is_area : List Str := ["_law_found", "_law_area_here", "_law_height", "_law_width"]
abbrev P_l_is_area : List Str := ["_law_found", "_law_area_here"]
theorem sc_l_is_area : FnScope N_l_is_area P_l_is_area (defScope s_l_is_area) := ⟨rfl, rfl, rfl, by decide +kernel, rfl, by decide +kernel, by decide +kernel⟩
structure AdW where
  f_corners : Addr
  d_corners : FuncData
  f_in_order : Addr
  d_in_order : FuncData
  f_area : Addr
  d_area : FuncData
  f_normal : Addr
  d_normal : FuncData
  f_corner : Addr
  d_corner : FuncData
  f_area_made : Addr
  d_area_made : FuncData
  f_is_area : Addr
  d_is_area : FuncData
structure TxtL (K : PySem.W.Frag) (mg : Str → Option Value) (p : AdW) : Prop where
  mg_l_corners : mg "_law_corners" = some (.ref p.f_corners)
  F_l_corners : Fun K "_law_corners" "_law_corners" s_l_corners p.f_corners p.d_corners
  b_l_corners : Binds K p.d_corners P_l_corners []
  mg_l_in_order : mg "_law_in_order" = some (.ref p.f_in_order)
  b_l_in_order : Binds K p.d_in_order P_l_in_order []
  F_l_in_order : Fun K "_law_in_order" "_law_in_order" s_l_in_order p.f_in_order p.d_in_order
  mg_l_area : mg "_law_area" = some (.ref p.f_area)
  F_l_area : Fun K "_law_area" "_law_area" s_l_area p.f_area p.d_area
  b_l_area : Binds K p.d_area P_l_area []
  mg_l_normal : mg "_law_normal" = some (.ref p.f_normal)
  F_l_normal : Fun K "_law_normal" "_law_normal" s_l_normal p.f_normal p.d_normal
  b_l_normal : Binds K p.d_normal P_l_normal []
  mg_l_corner : mg "_law_corner" = some (.ref p.f_corner)
  F_l_corner : Fun K "_law_corner" "_law_corner" s_l_corner p.f_corner p.d_corner
  b_l_corner : Binds K p.d_corner P_l_corner []
  mg_l_area_made : mg "_law_area_made" = some (.ref p.f_area_made)
  F_l_area_made : Fun K "_law_area_made" "_law_area_made" s_l_area_made p.f_area_made p.d_area_made
  b_l_area_made : Binds K p.d_area_made P_l_area_made []
  mg_l_is_area : mg "_law_is_area" = some (.ref p.f_is_area)
  F_l_is_area : Fun K "_law_is_area" "_law_is_area" s_l_is_area p.f_is_area p.d_is_area
  b_l_is_area : Binds K p.d_is_area P_l_is_area []
/-- a list of two pairs -/
def RowR (pp : (Int × Bool) × (Int × Bool)) : V → Hp → Prop := fun v H' => ∃ u x y, v = .ref u ∧ H' u = some (.lst [.ref x, .ref y]) ∧ PrAt H' x pp.1 ∧ PrAt H' y pp.2
theorem mon_row {pp : (Int × Bool) × (Int × Bool)} : MonR (RowR pp) := fun v H H' e ⟨u, x, y, h0, h1, h2, h3⟩ => ⟨u, x, y, h0, e _ _ h1, e _ _ h2, e _ _ h3⟩
/-- the law's area: two lists of pairs, whole, sheet -/
def LawAt (H : Hp) (t : Addr) (A : Ar) : Prop := ∃ l m, H t = some (.tup [.ref l, .ref m, whV A.wh, shV A.sh]) ∧ RowR A.ro (.ref l) H ∧ RowR A.co (.ref m) H
def LawR (A : Ar) : V → Hp → Prop := fun v H' => ∃ t, v = .ref t ∧ LawAt H' t A
theorem LawAt.ex {H H' : Hp} {t : Addr} {A : Ar} (h : LawAt H t A) (e : Ex H H') : LawAt H' t A := let ⟨l, m, h1, h2, h3⟩ := h; ⟨l, m, e _ _ h1, mon_row _ _ _ e h2, mon_row _ _ _ e h3⟩
theorem mon_law {A : Ar} : MonR (LawR A) := fun v H H' e ⟨t, h1, h2⟩ => ⟨t, h1, h2.ex e⟩
def pk (pp : (Int × Bool) × (Int × Bool)) (j : Int) : Int × Bool := if j = 0 then pp.1 else pp.2
def spCorner : Sp := fun vs H Q _ => ∃ (t : Addr) (A : Ar) (j : Int), vs = [.ref t, .int j] ∧ LawAt H t A ∧ (j = 0 ∨ j = 1) ∧ ∀ v H', Same H H' → TupR (plc (pk A.ro j).1 (pk A.co j).1 (pk A.ro j).2 (pk A.co j).2 A.sh) v H' → Q v H'
def spAreaMade (CA C : Addr) : Sp := fun vs H Q _ => ∃ (t : Addr) (A : Ar), vs = [.ref t] ∧ LawAt H t A ∧ A.On ∧ ∀ v H', Same H H' → AreaR CA C A.norm v H' → Q v H'
def spIsArea (CA C : Addr) : Sp := fun vs H Q _ => ∃ (a t : Addr) (A : Ar), vs = [.ref a, .ref t] ∧ AreaAt CA C H a A ∧ LawAt H t A ∧ shOk A.sh ∧ ∀ H', Same H H' → Q (.bl true) H'
section
variable {K : PySem.W.Frag} {σ : L2.St} {H : Hp} {te : TE} {t : Addr} {A : Ar}
/-- area[0][i][0] and its like -/
structure LawE (K : PySem.W.Frag) (σ : L2.St) (i : Nat) (H : Hp) (A : Ar) : Prop where
  r1 : Ev (tOp (rIxT K) (tOp (rIxL K) (tOp (rIxT K) (tVar i) (tC (.int 0))) (tC (.int 0))) (tC (.int 0))) σ H (.int A.ro.1.1)
  r2 : Ev (tOp (rIxT K) (tOp (rIxL K) (tOp (rIxT K) (tVar i) (tC (.int 0))) (tC (.int 1))) (tC (.int 0))) σ H (.int A.ro.2.1)
  c1 : Ev (tOp (rIxT K) (tOp (rIxL K) (tOp (rIxT K) (tVar i) (tC (.int 1))) (tC (.int 0))) (tC (.int 0))) σ H (.int A.co.1.1)
  c2 : Ev (tOp (rIxT K) (tOp (rIxL K) (tOp (rIxT K) (tVar i) (tC (.int 1))) (tC (.int 1))) (tC (.int 0))) σ H (.int A.co.2.1)
  wh : Ev (tOp (rIxT K) (tVar i) (tC (.int 2))) σ H (whV A.wh)
  sh : Ev (tOp (rIxT K) (tVar i) (tC (.int 3))) σ H (shV A.sh)
theorem lawe {i : Nat} (h : LawAt H t A) (hi : σ[i]? = some (some (.ref t))) : LawE K σ i H A := by
  obtain ⟨l, m, ht, ⟨_, x1, y1, e1, hl, hx1, hy1⟩, ⟨_, x2, y2, e2, hm, hx2, hy2⟩⟩ := h
  cases e1
  cases e2
  have f : ∀ {j : Int} {v : V}, atI [V.ref l, V.ref m, whV A.wh, shV A.sh] j = some v → Ev (tOp (rIxT K) (tVar i) (tC (.int j))) σ H v := fun h => ev_op (ev_var hi) ev_c (rv_ixT (st_of ht) h)
  have gl : ∀ {j : Int} {v : V}, atI [V.ref x1, V.ref y1] j = some v → Ev (tOp (rIxL K) (tOp (rIxT K) (tVar i) (tC (.int 0))) (tC (.int j))) σ H v := fun h => ev_op (f (v := .ref l) rfl) ev_c (rv_ixL (sq_of hl) h)
  have gm : ∀ {j : Int} {v : V}, atI [V.ref x2, V.ref y2] j = some v → Ev (tOp (rIxL K) (tOp (rIxT K) (tVar i) (tC (.int 1))) (tC (.int j))) σ H v := fun h => ev_op (f (v := .ref m) rfl) ev_c (rv_ixL (sq_of hm) h)
  exact ⟨ev_op (gl (v := .ref x1) rfl) ev_c (rv_ixT (st_of hx1) rfl), ev_op (gl (v := .ref y1) rfl) ev_c (rv_ixT (st_of hy1) rfl), ev_op (gm (v := .ref x2) rfl) ev_c (rv_ixT (st_of hx2) rfl), ev_op (gm (v := .ref y2) rfl) ev_c (rv_ixT (st_of hy2) rfl), f rfl, f rfl⟩
theorem evq_made {p : AdC} {CB : Addr} {E : XK} {r c : Int × Bool} {sh : Option (List Nat)} (h : EvQ te σ H (TupR (plc r.1 c.1 r.2 c.2 sh))) (so : shOk sh) (sg2 : shGood sh = true) (g : inG r c) : EvQ (tCall (spMade K p CB) [] E (tCons te tNil)) σ H (AdrR p.C r c sh) := fun H1 e Q q =>
  h H1 e _ fun v H2 e2 ⟨t, hv, ht⟩ => by
    subst hv
    exact made_ok (.inl ht) so sg2 (fun _ x dx H' nx s h2 => q _ H' (e2.trans s) ⟨x, rfl, dx, h2⟩) fun z => absurd (g.ok.symm.trans z) (by decide)
theorem evq_corner {i : Nat} {j : Int} (h : LawAt H t A) (hi : σ[i]? = some (some (.ref t))) (hj : j = 0 ∨ j = 1) : EvQ (tCall spCorner [] E0 (tCons (tVar i) (tCons (tC (.int j)) tNil))) σ H (TupR (plc (pk A.ro j).1 (pk A.co j).1 (pk A.ro j).2 (pk A.co j).2 A.sh)) :=
  evq_call (eaq_of (ea_cons (ev_var hi) (ea_cons ev_c ea_nil))) fun vs H2 e2 hv Q q => by
    subst hv
    exact ⟨t, A, j, rfl, h.ex e2, hj, fun v H3 e3 r => q v H3 e3 r⟩
end
section
variable {P : Program} {w : World} {K : PySem.W.Frag} {mg : Str → Option Value} {base : Heap} {ph : AdL} {pc : Ads} {pg : AdG} {pa : AdC} {D : Addr} {p : AdR} {mv : List Value} {pn : AdN6} {pl : AdW}

theorem ok_l_corner (T : TxtL K mg pl) : FnOk P w K mg base CX0 1 pl.f_corner pl.d_corner P_l_corner spCorner := by
  refine T.F_l_corner.ok sc_l_corner (fun vs H Q E h => ?_) (fun cdv A outer s H vs Q E hr h => ?_)
  · obtain ⟨t, A, j, rfl, _⟩ := h
    rfl
  · obtain ⟨t, A, j, rfl, ⟨l, m, ht, ⟨_, x1, y1, e1, hl, hx1, hy1⟩, ⟨_, x2, y2, e2, hm, hx2, hy2⟩⟩, hj, k⟩ := h
    cases e1
    cases e2
    refine ⟨_, (pss_cons (ps_asg (pv 0) (pg_tup (by rfl) (pgs_cons (pg_name (i := 2) sc_l_corner.nd rfl (Or.inl rfl)) (pgs_cons (pg_name (i := 3) sc_l_corner.nd rfl (Or.inl rfl)) (pgs_cons (pg_name (i := 4) sc_l_corner.nd rfl (Or.inl rfl)) (pgs_cons (pg_name (i := 5) sc_l_corner.nd rfl (Or.inl rfl)) pgs_nil))))))
      (pss_one (ps_ret (pe_tup (pa_cons (pe_ix ix_tup (pe_ix ix_list (pv 2) (pv 1) (fun _ _ => rfl)) pe_int (fun _ _ => rfl)) (pa_cons (pe_ix ix_tup (pe_ix ix_list (pv 3) (pv 1) (fun _ _ => rfl)) pe_int (fun _ _ => rfl)) (pa_cons (pe_ix ix_tup (pe_ix ix_list (pv 2) (pv 1) (fun _ _ => rfl)) pe_int (fun _ _ => rfl)) (pa_cons (pe_ix ix_tup (pe_ix ix_list (pv 3) (pv 1) (fun _ _ => rfl)) pe_int (fun _ _ => rfl)) (pa_cons (pv 5) pa_nil))))))))), ?_⟩
    refine ⟨_, rfl, t, _, rfl, st_of ht, rfl, _, _, rfl, _, _, rfl, _, _, rfl, _, _, rfl, rfl, ?_⟩
    dsimp only
    show tRet _ _ [some (.ref t), some (.int j), some (.ref l), some (.ref m), some (whV A.wh), some (shV A.sh)] H
    have go : ∀ {X1 X2 : Addr}, atI [V.ref x1, V.ref y1] j = some (.ref X1) → atI [V.ref x2, V.ref y2] j = some (.ref X2) → PrAt H X1 (pk A.ro j) → PrAt H X2 (pk A.co j) → tRet (tTup (tCons (tOp (rIxT K) (tOp (rIxL K) (tVar 2) (tVar 1)) (tC (.int 0))) (tCons (tOp (rIxT K) (tOp (rIxL K) (tVar 3) (tVar 1)) (tC (.int 0))) (tCons (tOp (rIxT K) (tOp (rIxL K) (tVar 2) (tVar 1)) (tC (.int 1))) (tCons (tOp (rIxT K) (tOp (rIxL K) (tVar 3) (tVar 1)) (tC (.int 1))) (tCons (tVar 5) tNil)))))) { nx := fun _ H' => Q .non H', rt := Q } [some (.ref t), some (.int j), some (.ref l), some (.ref m), some (whV A.wh), some (shV A.sh)] H := fun {X1 X2} a1 a2 p1 p2 => by
      have f1 : ∀ {i : Int} {v : V}, atI [V.int (pk A.ro j).1, V.bl (pk A.ro j).2] i = some v → Ev (tOp (rIxT K) (tOp (rIxL K) (tVar 2) (tVar 1)) (tC (.int i))) [some (.ref t), some (.int j), some (.ref l), some (.ref m), some (whV A.wh), some (shV A.sh)] H v := fun h => ev_op (ev_op (ev_var (v := .ref l) rfl) (ev_var (v := .int j) rfl) (rv_ixL (sq_of hl) a1)) ev_c (rv_ixT (st_of p1) h)
      have f2 : ∀ {i : Int} {v : V}, atI [V.int (pk A.co j).1, V.bl (pk A.co j).2] i = some v → Ev (tOp (rIxT K) (tOp (rIxL K) (tVar 3) (tVar 1)) (tC (.int i))) [some (.ref t), some (.int j), some (.ref l), some (.ref m), some (whV A.wh), some (shV A.sh)] H v := fun h => ev_op (ev_op (ev_var (v := .ref m) rfl) (ev_var (v := .int j) rfl) (rv_ixL (sq_of hm) a2)) ev_c (rv_ixT (st_of p2) h)
      exact q_retQ (evq_new (eu_tup (vs := plc (pk A.ro j).1 (pk A.co j).1 (pk A.ro j).2 (pk A.co j).2 A.sh) (ea_cons (f1 rfl) (ea_cons (f2 rfl) (ea_cons (f1 rfl) (ea_cons (f2 rfl) (ea_cons (ev_var rfl) ea_nil))))) (by show 5 ≤ 100000; decide))) fun v H1 e1 r => k v H1 e1 r
    rcases hj with rfl | rfl
    · exact go (X1 := x1) (X2 := x2) rfl rfl hx1 hx2
    · exact go (X1 := y1) (X2 := y2) rfl rfl hy1 hy2
theorem ok_l_area_made (TC : TxtC K mg pc) (TG : TxtG K mg pg) (TA : TxtA6 K mg pc.S pa) (Z : TxtB K mg pa D) (TR : TxtR K mg p) (MK : TxtK K pa p mv) (TN : TxtN6 K mg pn) (TL : TxtL K mg pl) : FnOk P w K mg base (L2.CX P w) 10 pl.f_area_made pl.d_area_made P_l_area_made (spAreaMade p.CA pa.C) := by
  have GA : FnOk P w K mg base (L2.CX P w) 8 p.m_init p.e_init P_Area_init (spAInit K pa.C p.CA pc.CB) := ok_Area_init TC TG TA Z TR MK
  have G_l_made : FnOk P w K mg base (L2.CX P w) 6 pn.f_made pn.d_made P_l_made (spMade K pa pc.CB) := ok_l_made TC TG TA Z TN
  have G_l_corner : FnOk P w K mg base CX0 1 pl.f_corner pl.d_corner P_l_corner spCorner := ok_l_corner TL
  refine TL.F_l_area_made.okX sc_l_area_made (fun vs H Q E h => ?_) (fun cdv A outer s H vs Q E hr h => ?_)
  · obtain ⟨t, A, rfl, _⟩ := h
    rfl
  · obtain ⟨t, A, rfl, hA, oA, k⟩ := h
    refine ⟨_, (pss_one (ps_ret (pe_makeK (n := 2) TR.mkA (GA) (hr.mono (by decide)) (by rfl) TR.mg_Area (kb_Area TR.F_init) (passes_call (takes_of rfl rfl rfl rfl) fun _ _ _ _ h => h) (pa_cons (pe_call G_l_made (hr.mono (by decide)) (by rfl) TN.mg_l_made TN.F_l_made.kp TN.b_l_made .nil (passes_call (takes_of rfl rfl rfl rfl) fun _ _ _ _ h => h) (pa_cons (pe_call G_l_corner (hr.mono (by decide)) (by rfl) TL.mg_l_corner TL.F_l_corner.kp TL.b_l_corner .nil pass0 (pa_cons (pv 0) (pa_cons pe_int pa_nil))) pa_nil)) (pa_cons (pe_call G_l_made (hr.mono (by decide)) (by rfl) TN.mg_l_made TN.F_l_made.kp TN.b_l_made .nil (passes_call (takes_of rfl rfl rfl rfl) fun _ _ _ _ h => h) (pa_cons (pe_call G_l_corner (hr.mono (by decide)) (by rfl) TL.mg_l_corner TL.F_l_corner.kp TL.b_l_corner .nil pass0 (pa_cons (pv 0) (pa_cons pe_int pa_nil))) pa_nil)) pa_nil)) (pk_cons (pe_ix ix_tup (pv 0) pe_int (fun _ _ => rfl)) pk_nil)))), ?_⟩
    exact q_retQ (evq_area (eaq_two (evq_made (evq_corner hA rfl (.inl rfl)) oA.so oA.sg oA.a) (evq_made (evq_corner hA rfl (.inr rfl)) oA.so oA.sg oA.b) mon_adr) (lawe hA rfl).wh oA.a oA.b oA.so oA.sg oA.so (.inr (alike_refl _)) MK.nCA) fun v H1 e1 r => k v H1 e1 r
theorem ok_l_is_area (TC : TxtC K mg pc) (TA : TxtA6 K mg pc.S pa) (Z : TxtB K mg pa D) (TR : TxtR K mg p) (TN : TxtN6 K mg pn) (TL : TxtL K mg pl) : FnOk P w K mg base CX0 3 pl.f_is_area pl.d_is_area P_l_is_area (spIsArea p.CA pa.C) := by
  have G_l_is : FnOk P w K mg base CX0 1 pn.f_is pn.d_is P_l_is (spIs pa.C) := ok_l_is TC TA Z TN
  have G_l_corner : FnOk P w K mg base CX0 1 pl.f_corner pl.d_corner P_l_corner spCorner := ok_l_corner TL
  refine TL.F_l_is_area.ok sc_l_is_area (fun vs H Q E h => ?_) (fun cdv A outer s H vs Q E hr h => ?_)
  · obtain ⟨a, t, A, rfl, _⟩ := h
    rfl
  · obtain ⟨a, t, A, rfl, hA, hT, so, k⟩ := h
    refine ⟨_, (pss_cons (ps_if (PW.pt (pw_or (pt_not (pt_val (pe_callB (id := "isinstance") call_isi (by rfl) TC.n_isinstance (by decide +kernel) (pa_cons (pv 0) (pa_cons (pe_glob (v := .ref p.CA) (by rfl) TR.mg_Area rfl) pa_nil))))) (pw_or (pt_cmpR op_ne (pe_fld (pv 0) rfl) (pe_ix ix_tup (pv 1) pe_int (fun _ _ => rfl)) (nomark _)) (pw_or1 (pt_cmpR op_ne (pe_fld (pv 0) rfl) (pe_ix ix_tup (pv 1) pe_int (fun _ _ => rfl)) (nomark _)))))) (pss_one (ps_ret pe_bl)) pss_nil)
      (pss_cons (ps_if (PW.pt (pw_or (pt_not (pt_val (pe_call G_l_is (hr.mono (by decide)) (by rfl) TN.mg_l_is TN.F_l_is.kp TN.b_l_is .nil pass0 (pa_cons (pe_fld (pv 0) rfl) (pa_cons (pe_call G_l_corner (hr.mono (by decide)) (by rfl) TL.mg_l_corner TL.F_l_corner.kp TL.b_l_corner .nil pass0 (pa_cons (pv 1) (pa_cons pe_int pa_nil))) pa_nil))))) (pw_or1 (pt_not (pt_val (pe_call G_l_is (hr.mono (by decide)) (by rfl) TN.mg_l_is TN.F_l_is.kp TN.b_l_is .nil pass0 (pa_cons (pe_fld (pv 0) rfl) (pa_cons (pe_call G_l_corner (hr.mono (by decide)) (by rfl) TL.mg_l_corner TL.F_l_corner.kp TL.b_l_corner .nil pass0 (pa_cons (pv 1) (pa_cons pe_int pa_nil))) pa_nil)))))))) (pss_one (ps_ret pe_bl)) pss_nil)
      (pss_cons (ps_par (i := 2) (j := 3) (by rfl) sc_l_is_area.nd rfl rfl (by decide) rfl rfl (pa_cons (pe_op op_add (pe_op op_sub (pe_ix ix_tup (pe_ix ix_list (pe_ix ix_tup (pv 1) pe_int (fun _ _ => rfl)) pe_int (fun _ _ => rfl)) pe_int (fun _ _ => rfl)) (pe_ix ix_tup (pe_ix ix_list (pe_ix ix_tup (pv 1) pe_int (fun _ _ => rfl)) pe_int (fun _ _ => rfl)) pe_int (fun _ _ => rfl))) pe_int) (pa_cons (pe_op op_add (pe_op op_sub (pe_ix ix_tup (pe_ix ix_list (pe_ix ix_tup (pv 1) pe_int (fun _ _ => rfl)) pe_int (fun _ _ => rfl)) pe_int (fun _ _ => rfl)) (pe_ix ix_tup (pe_ix ix_list (pe_ix ix_tup (pv 1) pe_int (fun _ _ => rfl)) pe_int (fun _ _ => rfl)) pe_int (fun _ _ => rfl))) pe_int) pa_nil)) (by rfl))
      (pss_one (ps_ret (pe_cmpR (op_eqD hr.units) (pe_tup (pa_cons (pe_fld (pv 0) rfl) (pa_cons (pe_fld (pv 0) rfl) pa_nil))) (pe_tup (pa_cons (pv 2) (pa_cons (pv 3) pa_nil))) (nomark _))))))), ?_⟩
    have me : PySem.W.kitOne K (.ref p.CA) (.ref p.CA) = some true := by
      unfold PySem.W.kitOne
      rw [if_pos (by simp)]
    have ei : Ev (tCB (rIsi K) (tCons (tVar 0) (tCons (tC (.ref p.CA)) tNil))) [some (.ref a), some (.ref t), none, none] H (.bl true) := fun H1 e Q q => ⟨_, rfl, .ref a, .ref p.CA, .ref p.CA, .ref p.CA, true, rfl, .own p.CA, area_ty TR (hA.ex e), me, q H1 (Ex.refl H1)⟩
    refine q_when (b := false) (et_is (et_or (et_not (et_B ei)) fun _ => et_or (et_test (ev_op (flde TA TR hA rfl).wh (lawe hT rfl).wh (rv_ne (by cases A.wh <;> rfl)))) fun _ => et_test (ev_op (flde TA TR hA rfl).sh (lawe hT rfl).sh (rv_ne (by cases A.sh <;> rfl)))) (by simp)) (fun z => nomatch z) fun _ H1 e1 => ?_
    have hA1 := hA.ex e1
    have hT1 := hT.ex e1
    have isc : ∀ {j : Int} {f : Str} {r c : Int × Bool}, (j = 0 ∧ f = "first" ∧ r = A.ro.1 ∧ c = A.co.1 ∨ j = 1 ∧ f = "last" ∧ r = A.ro.2 ∧ c = A.co.2) → Ev (tCall (spIs pa.C) [] E0 (tCons (tFld K (tVar 0) f) (tCons (tCall spCorner [] E0 (tCons (tVar 1) (tCons (tC (.int j)) tNil))) tNil))) [some (.ref a), some (.ref t), none, none] H1 (.bl true) := fun {j f r c} hj H2 e2 Q q => by
      have hA2 := hA1.ex e2
      obtain ⟨dA, a1, a2, h0, h1, h2⟩ := hA2
      have main : ∀ {b : Addr} {r c : Int × Bool}, (afl a1 a2 A).lookup f = some (.ref b) → AdrAt pa.C H2 b r c A.sh → NoAttr K p.CA f → (pk A.ro j) = r → pk A.co j = c → (j = 0 ∨ j = 1) → tCall (spIs pa.C) [] E0 (tCons (tFld K (tVar 0) f) (tCons (tCall spCorner [] E0 (tCons (tVar 1) (tCons (tC (.int j)) tNil))) tNil)) [some (.ref a), some (.ref t), none, none] H2 Q := fun {b r c} hl hb n e3 e4 hj2 => by
        subst e3 e4
        refine (evq_call (R := fun v _ => v = .bl true) (eaq_two (evq_of (ev_fldG (ev_var rfl) h0 TR.cl n hl)) (evq_corner (hT1.ex e2) rfl hj2) mon_eq) fun vs H3 e3 ⟨x, y, hv, hx, ⟨u, hu, hu2⟩⟩ Q q => ?_) H2 (Ex.refl H2) Q fun v H3 e3 hv => ?_
        · subst hv
          exact q H3 e3
        · subst hv hx hu
          obtain ⟨d, hd⟩ := hb
          exact ⟨b, d, u, _, _, _, _, A.sh, rfl, e3 _ _ hd, hu2, so, fun H4 s => q _ H4 s rfl⟩
      rcases hj with ⟨rfl, rfl, rfl, rfl⟩ | ⟨rfl, rfl, rfl, rfl⟩
      · exact main (b := a1) rfl h1 TR.n_first rfl rfl (.inl rfl)
      · exact main (b := a2) rfl h2 TR.n_last rfl rfl (.inr rfl)
    refine q_when (b := false) (et_is (et_or (et_not (et_B (isc (.inl ⟨rfl, rfl, rfl, rfl⟩)))) fun _ => et_not (et_B (isc (.inr ⟨rfl, rfl, rfl, rfl⟩)))) rfl) (fun z => nomatch z) fun _ H2 e2 => ?_
    have hA2 := hA1.ex e2
    have hT2 := hT1.ex e2
    refine q_parT (v := .int A.ht) (w := .int A.wd) (ea_cons (ev_op (ev_op (lawe hT2 rfl).r2 (lawe hT2 rfl).r1 rv_I0) ev_c rv_I0) (ea_cons (ev_op (ev_op (lawe hT2 rfl).c2 (lawe hT2 rfl).c1 rv_I0) ev_c rv_I0) ea_nil)) fun H3 e3 => ?_
    have hA3 := hA2.ex e3
    refine (ev_opUU (z := .bl true) (eu_tup (vs := [.int A.ht, .int A.wd]) (ea_cons (flde TA TR hA3 rfl).ht (ea_cons (flde TA TR hA3 rfl).wd ea_nil)) (by show 2 ≤ 100000; decide)) (eu_tup (vs := [.int A.ht, .int A.wd]) (ea_cons (ev_var rfl) (ea_cons (ev_var rfl) ea_nil)) (by show 2 ≤ 100000; decide)) fun x y H4 hx hy e4 H5 e5 Q q => ?_) H3 (Ex.refl H3) _ fun H4 e4 => k H4 (((e1.trans e2).trans e3).trans e4)
    have sd : SeqAt.shaped (.tuple [.int A.ht, .int A.wd]) = true := rfl
    refine ⟨_, _, .tup (st_of (e5 _ _ hx)) (.cons (.int _) (.cons (.int _) .nil)), .tup (st_of (e5 _ _ hy)) (.cons (.int _) (.cons (.int _) .nil)), sd, sd, ?_⟩
    have z : PyData.eqv (.tuple [.int A.ht, .int A.wd]) (.tuple [.int A.ht, .int A.wd]) = true := by
      show ((A.ht == A.ht) && ((A.wd == A.wd) && true)) = true
      simp
    rw [z]
    exact q H5 (Ex.refl H5)
end
end K18

set_option Elab.async false
set_option linter.all false
set_option maxRecDepth 100000
set_option maxHeartbeats 4000000
namespace K18
open PySem PySem.Spec PyProof.Rows L2 Pen EV2 Evl TX LamX
def OptLaw : Option Ar → V → Hp → Prop
  | none => fun v _ => v = .non
  | some A => LawR A
theorem mon_optlaw : ∀ o : Option Ar, MonR (OptLaw o)
  | none => mon_eq
  | some A => mon_law
/-- areas of the law, one by one -/
def LawsAt (H : Hp) : List V → List Ar → Prop
  | [], [] => True
  | v :: vs, A :: As => LawR A v H ∧ LawsAt H vs As
  | _, _ => False
theorem LawsAt.ex {H H' : Hp} (e : Ex H H') : ∀ {vs : List V} {As : List Ar}, LawsAt H vs As → LawsAt H' vs As
  | [], [], _ => trivial
  | v :: vs, A :: As, ⟨h1, h⟩ => ⟨mon_law _ _ _ e h1, h.ex e⟩
  | [], _ :: _, h => h.elim
  | _ :: _, [], h => h.elim
theorem LawsAt.mem {H : Hp} : ∀ {vs : List V} {As : List Ar}, LawsAt H vs As → ∀ v ∈ vs, ∃ A, LawR A v H
  | [], [], _ => fun v h => by cases h
  | w :: vs, A :: As, ⟨h1, h⟩ => fun v hv => by
    rcases List.mem_cons.mp hv with rfl | hv
    · exact ⟨A, h1⟩
    · exact h.mem v hv
  | [], _ :: _, h => h.elim
  | _ :: _, [], h => h.elim
theorem LawsAt.len {H : Hp} : ∀ {vs : List V} {As : List Ar}, LawsAt H vs As → vs.length = As.length
  | [], [], _ => rfl
  | _ :: _, _ :: _, ⟨_, h⟩ => by rw [List.length_cons, List.length_cons, h.len]
  | [], _ :: _, h => h.elim
  | _ :: _, [], h => h.elim
theorem LawsAt.snoc {H : Hp} {v : V} {A : Ar} (r : LawR A v H) : ∀ {vs : List V} {As : List Ar}, LawsAt H vs As → LawsAt H (vs ++ [v]) (As ++ [A])
  | [], [], _ => ⟨r, trivial⟩
  | w :: vs, B :: As, ⟨h0, h⟩ => ⟨h0, h.snoc r⟩
  | [], _ :: _, h => h.elim
  | _ :: _, [], h => h.elim
/-- a list of areas is no list of pairs -/
theorem row_ne {H : Hp} {l u : Addr} {xs : List V} {As : List Ar} {pp : (Int × Bool) × (Int × Bool)} (hl : H l = some (.lst xs)) (hs : LawsAt H xs As) (h : RowR pp (.ref u) H) : u ≠ l := fun z => by
  subst z
  obtain ⟨_, x, y, e, hu, hx, _⟩ := h
  cases e
  rw [hl] at hu
  cases hu
  obtain ⟨A, t, ht, _, _, h2, _⟩ := hs.mem (.ref x) (by simp)
  cases ht
  unfold PrAt at hx
  rw [h2] at hx
  cases hx
theorem row_put {H : Hp} {l u : Addr} {xs ys : List V} {As : List Ar} {pp : (Int × Bool) × (Int × Bool)} (hl : H l = some (.lst xs)) (hs : LawsAt H xs As) (h : RowR pp (.ref u) H) : RowR pp (.ref u) (upd H l (.lst ys)) := by
  have n := row_ne hl hs h
  obtain ⟨_, x, y, e, hu, hx, hy⟩ := h
  cases e
  refine ⟨u, x, y, rfl, by rw [upd_ne n]; exact hu, ?_, ?_⟩
  · unfold PrAt at hx ⊢
    rw [upd_ne (ne_of hx hl (by intro z; cases z))]; exact hx
  · unfold PrAt at hy ⊢
    rw [upd_ne (ne_of hy hl (by intro z; cases z))]; exact hy
theorem law_put {H : Hp} {l : Addr} {xs ys : List V} {As : List Ar} {A : Ar} {v : V} (hl : H l = some (.lst xs)) (hs : LawsAt H xs As) (h : LawR A v H) : LawR A v (upd H l (.lst ys)) := by
  obtain ⟨t, e, a, b, ht, h1, h2⟩ := h
  exact ⟨t, e, a, b, by rw [upd_ne (ne_of ht hl (by intro z; cases z))]; exact ht, row_put hl hs h1, row_put hl hs h2⟩
theorem laws_put {H : Hp} {l : Addr} {xs ys : List V} {As : List Ar} (hl : H l = some (.lst xs)) (hs : LawsAt H xs As) : ∀ {vs : List V} {Bs : List Ar}, LawsAt H vs Bs → LawsAt (upd H l (.lst ys)) vs Bs
  | [], [], _ => trivial
  | v :: vs, A :: Bs, ⟨h1, h⟩ => ⟨law_put hl hs h1, laws_put hl hs h⟩
  | [], _ :: _, h => h.elim
  | _ :: _, [], h => h.elim
abbrev Qd := Int × Int × Int × Int
def qV (q : Qd) : List V := [.int q.1, .int q.2.1, .int q.2.2.1, .int q.2.2.2]
/-- a list of fours -/
def PartsR (qs : List Qd) : V → Hp → Prop := fun v H => ∃ (p : Addr) (xs : List V), v = .ref p ∧ H p = some (.lst xs) ∧ xs.length = qs.length ∧ ∀ (k : Nat) (q : Qd), qs[k]? = some q → ∃ w : Addr, xs[k]? = some (V.ref w) ∧ H w = some (.tup (qV q))
theorem mon_parts {qs : List Qd} : MonR (PartsR qs) := fun v H H' e ⟨p, xs, h1, h2, h3, h4⟩ => ⟨p, xs, h1, e _ _ h2, h3, fun k q hk => let ⟨w, a, b⟩ := h4 k q hk; ⟨w, a, e _ _ b⟩⟩
def isAll (A : Ar) (q : Qd) : Bool := if A.wh = .cols then decide (q.2.2.1 - q.1 = 999999) else decide (q.2.2.2 - q.2.1 = 18277)
def lawWh (A : Ar) (q : Qd) : Wh := if A.wh ≠ .no ∧ isAll A q = true then A.wh else .no
def qOk (q : Qd) : Bool := decide (q.1 ≤ q.2.2.1) && decide (q.2.1 ≤ q.2.2.2)
def qAr (A : Ar) (q : Qd) : Ar := bare q.1 q.2.1 q.2.2.1 q.2.2.2 (lawWh A q) A.sh
def flt (A : Ar) : List Qd → List Ar
  | [] => []
  | q :: qs => ifL (qOk q) (qAr A q) ++ flt A qs
theorem flt_app {A : Ar} : ∀ (a b : List Qd), flt A (a ++ b) = flt A a ++ flt A b
  | [], b => rfl
  | q :: a, b => by
    show ifL _ _ ++ flt A (a ++ b) = (ifL _ _ ++ flt A a) ++ flt A b
    rw [flt_app a b, List.append_assoc]
theorem flt_len {A : Ar} : ∀ (a : List Qd), (flt A a).length ≤ a.length
  | [] => Nat.le_refl _
  | q :: a => by
    show (ifL _ _ ++ flt A a).length ≤ a.length + 1
    rw [List.length_append]
    have := flt_len (A := A) a
    have : (ifL (qOk q) (qAr A q)).length ≤ 1 := by unfold ifL; split <;> simp
    omega
/-- the fours that the law looks at -/
def qsOf (A : Ar) : Option Ar → List Qd
  | none => [(A.ro.1.1, A.co.1.1, A.ro.2.1, A.co.2.1)]
  | some M => [(A.ro.1.1, A.co.1.1, M.ro.1.1 - 1, A.co.2.1), (M.ro.2.1 + 1, A.co.1.1, A.ro.2.1, A.co.2.1), (M.ro.1.1, A.co.1.1, M.ro.2.1, M.co.1.1 - 1), (M.ro.1.1, M.co.2.1 + 1, M.ro.2.1, A.co.2.1)]
theorem qAr_part {A : Ar} {t l b r : Int} (h1 : 1 ≤ t) (h2 : b ≤ 1000000) (h3 : 1 ≤ l) (h4 : r ≤ 18278) : qAr A (t, l, b, r) = part A t l b r := by
  unfold qAr part
  have : lawWh A (t, l, b, r) = partWh A t l b r := by
    unfold lawWh partWh isAll
    cases hw : A.wh with
    | no =>
      rw [if_neg (by simp), if_neg (by simp)]
    | cols =>
      by_cases hc : t = 1 ∧ b = 1000000
      · rw [if_pos (by simp; omega), if_pos (by simp; exact hc)]
      · rw [if_neg (by simp; omega), if_neg (by simp; omega)]
    | rows =>
      by_cases hc : l = 1 ∧ r = 18278
      · rw [if_pos (by simp; omega), if_pos (by simp; exact hc)]
      · rw [if_neg (by simp; omega), if_neg (by simp; omega)]
  rw [this]
theorem flt_lefts {A : Ar} (nA : A.Nm) : ∀ o : Option Ar, (∀ M, o = some M → M.Nm ∧ A.ro.1.1 ≤ M.ro.1.1 ∧ M.ro.2.1 ≤ A.ro.2.1 ∧ A.co.1.1 ≤ M.co.1.1 ∧ M.co.2.1 ≤ A.co.2.1) → flt A (qsOf A o) = lefts A o
  | none, _ => by
    have ga := nA.on.a
    have gb := nA.on.b
    unfold inG at ga gb
    have h1 := nA.r
    have h2 := nA.c
    show ifL _ _ ++ [] = [part A _ _ _ _]
    rw [qAr_part ga.1.1 gb.1.2 ga.2.1 gb.2.2, List.append_nil]
    have : qOk (A.ro.1.1, A.co.1.1, A.ro.2.1, A.co.2.1) = true := by
      unfold qOk
      rw [decide_eq_true h1, decide_eq_true h2]
      rfl
    rw [this]
    rfl
  | some M, h => by
    obtain ⟨nM, m1, m2, m3, m4⟩ := h M rfl
    have ga := nA.on.a
    have gb := nA.on.b
    have gm := nM.on.a
    have gn := nM.on.b
    unfold inG at ga gb gm gn
    have h1 := nA.r
    have h2 := nA.c
    have h3 := nM.r
    have h4 := nM.c
    show ifL _ _ ++ (ifL _ _ ++ (ifL _ _ ++ (ifL _ _ ++ []))) = lefts A (some M)
    rw [qAr_part ga.1.1 (by omega) ga.2.1 gb.2.2, qAr_part (by omega) gb.1.2 ga.2.1 gb.2.2, qAr_part gm.1.1 gn.1.2 ga.2.1 (by omega), qAr_part gm.1.1 gn.1.2 (by omega) gb.2.2]
    have q1 : qOk (A.ro.1.1, A.co.1.1, M.ro.1.1 - 1, A.co.2.1) = decide (A.ro.1.1 < M.ro.1.1) := by
      unfold qOk
      rw [Bool.eq_iff_iff]
      simp
      omega
    have q2 : qOk (M.ro.2.1 + 1, A.co.1.1, A.ro.2.1, A.co.2.1) = decide (M.ro.2.1 < A.ro.2.1) := by
      unfold qOk
      rw [Bool.eq_iff_iff]
      simp
      omega
    have q3 : qOk (M.ro.1.1, A.co.1.1, M.ro.2.1, M.co.1.1 - 1) = decide (A.co.1.1 < M.co.1.1) := by
      unfold qOk
      rw [Bool.eq_iff_iff]
      simp
      omega
    have q4 : qOk (M.ro.1.1, M.co.2.1 + 1, M.ro.2.1, A.co.2.1) = decide (M.co.2.1 < A.co.2.1) := by
      unfold qOk
      rw [Bool.eq_iff_iff]
      simp
      omega
    rw [q1, q2, q3, q4, List.append_nil]
    unfold lefts
    simp only [List.append_assoc]
/-- what is left over -/
def LsLaw (As : List Ar) : V → Hp → Prop := fun v H => ∃ p xs, v = .ref p ∧ H p = some (.lst xs) ∧ LawsAt H xs As
section
variable {P : Program} {w : World} {K : PySem.W.Frag} {mg : Str → Option Value} {base : Heap} {ph : AdL} {pc : Ads} {pg : AdG} {pa : AdC} {D : Addr} {p : AdR} {mv : List Value} {pn : AdN6} {pl : AdW}

end
end K18

set_option Elab.async false
set_option linter.all false
set_option maxRecDepth 100000
set_option maxHeartbeats 4000000
namespace K18
open PySem PySem.Spec PyProof.Rows L2 Pen EV2 Evl TX LamX
def prD (p : Int × Bool) : PyData := .tuple [.int p.1, .bool p.2]
def ppD (pp : (Int × Bool) × (Int × Bool)) : PyData := .list [prD pp.1, prD pp.2]
def whD : Wh → PyData
  | .no => .none
  | .cols => .str "columns"
  | .rows => .str "rows"
def arD (A : Ar) : PyData := .tuple [ppD A.ro, ppD A.co, whD A.wh]
theorem eqv_bool {x y : Bool} : PyData.eqv (.bool x) (.bool y) = decide (x = y) := by cases x <;> cases y <;> rfl
theorem prD_eqv {p q : Int × Bool} : PyData.eqv (prD p) (prD q) = decide (p = q) := by
  show ((p.1 == q.1) && (PyData.eqv (.bool p.2) (.bool q.2) && true)) = decide (p = q)
  rw [eqv_bool, Bool.eq_iff_iff]
  simp [Prod.ext_iff]
theorem ppD_eqv {p q : (Int × Bool) × (Int × Bool)} : PyData.eqv (ppD p) (ppD q) = decide (p = q) := by
  show (PyData.eqv (prD p.1) (prD q.1) && (PyData.eqv (prD p.2) (prD q.2) && true)) = decide (p = q)
  rw [prD_eqv, prD_eqv, Bool.eq_iff_iff]
  simp [Prod.ext_iff (x := p)]
theorem whD_eqv {p q : Wh} : PyData.eqv (whD p) (whD q) = decide (p = q) := by cases p <;> cases q <;> first | rfl | decide +kernel
theorem arD_eqv {A B : Ar} : PyData.eqv (arD A) (arD B) = decide (A.ro = B.ro ∧ A.co = B.co ∧ A.wh = B.wh) := by
  show (PyData.eqv (ppD A.ro) (ppD B.ro) && (PyData.eqv (ppD A.co) (ppD B.co) && (PyData.eqv (whD A.wh) (whD B.wh) && true))) = _
  rw [ppD_eqv, ppD_eqv, whD_eqv, Bool.eq_iff_iff]
  simp
theorem prD_dp {K : PySem.W.Frag} {H : Hp} {x : Addr} {p : Int × Bool} (h : PrAt H x p) : Dp K H (.ref x) (prD p) := .tup (st_of h) (.cons (.int _) (.cons (.bl _) .nil))
theorem ppD_dp {K : PySem.W.Frag} {H : Hp} {v : V} {p : (Int × Bool) × (Int × Bool)} (h : RowR p v H) : Dp K H v (ppD p) := by
  obtain ⟨u, x, y, rfl, hu, hx, hy⟩ := h
  exact .lst (sq_of hu) (.cons (prD_dp hx) (.cons (prD_dp hy) .nil))
theorem whD_dp {K : PySem.W.Frag} {H : Hp} (w : Wh) : Dp K H (whV w) (whD w) := by
  cases w with
  | no => exact .non
  | cols => exact .str _
  | rows => exact .str _
theorem arD_sh (A : Ar) : SeqAt.shaped (arD A) = true := by
  unfold SeqAt.shaped arD
  refine Bool.and_eq_true_iff.mpr ⟨?_, decide_eq_true ?_⟩
  · cases A.wh with
    | no => rfl
    | cols =>
      show (PyData.strOk (Str.ofString "columns") && true) = true
      decide +kernel
    | rows =>
      show (PyData.strOk (Str.ofString "rows") && true) = true
      decide +kernel
  · cases A.wh <;> exact Nat.le_of_ble_eq_true rfl
/-- the first three of a law's area -/
def Thr (A : Ar) : V → Hp → Prop := fun v H => ∃ a l m, v = .ref a ∧ H a = some (.tup [.ref l, .ref m, whV A.wh]) ∧ RowR A.ro (.ref l) H ∧ RowR A.co (.ref m) H
theorem mon_thr {A : Ar} : MonR (Thr A) := fun v H H' e ⟨a, l, m, h0, h1, h2, h3⟩ => ⟨a, l, m, h0, e _ _ h1, mon_row _ _ _ e h2, mon_row _ _ _ e h3⟩
theorem Thr.dp {K : PySem.W.Frag} {A : Ar} {v : V} {H : Hp} (h : Thr A v H) : Dp K H v (arD A) := by
  obtain ⟨a, l, m, rfl, ha, hl, hm⟩ := h
  exact .tup (st_of ha) (.cons (ppD_dp hl) (.cons (ppD_dp hm) (.cons (whD_dp _) .nil)))
section
variable {P : Program} {w : World} {K : PySem.W.Frag} {mg : Str → Option Value} {base : Heap} {ph : AdL} {pc : Ads} {pg : AdG} {pa : AdC} {D : Addr} {p : AdR} {mv : List Value} {pn : AdN6} {pl : AdW}

end
end K18

set_option Elab.async false
set_option linter.all false
set_option maxRecDepth 100000
set_option maxHeartbeats 4000000
namespace K18
open PySem PySem.Spec PyProof.Rows L2 Pen EV2 Evl TX LamX
theorem RowR.sib {H H' : Hp} {q : Addr} {kv : List (Key × V)} {pp : (Int × Bool) × (Int × Bool)} {v : V} (h : RowR pp v H) (hq : H q = some (.dK kv)) (s : Sib q H H') : RowR pp v H' := by
  obtain ⟨u, x, y, rfl, hu, hx, hy⟩ := h
  exact ⟨u, x, y, rfl, s _ _ (ne_of hu hq (by intro z; cases z)) hu, s _ _ (ne_of hx hq (by intro z; cases z)) hx, s _ _ (ne_of hy hq (by intro z; cases z)) hy⟩
def inB (pp : (Int × Bool) × (Int × Bool)) (lo hi : Int) : Prop := (lo ≤ pp.1.1 ∧ pp.1.1 ≤ hi) ∧ lo ≤ pp.2.1 ∧ pp.2.1 ≤ hi
def spCorners : Sp := fun vs H Q _ => ∃ (q c b : Addr) (cs : List Int) (i r br bc : Int), vs = [.ref q, .ref b] ∧ PenAt H q c cs i r ∧ i < 2 ^ 38 ∧ H b = some (.tup [.int br, .int bc]) ∧ (0 ≤ br ∧ br ≤ 999993) ∧ (0 ≤ bc ∧ bc ≤ 18271) ∧
  ∀ (t l m : Addr) (rr cc : (Int × Bool) × (Int × Bool)) (i' r' : Int) (H' : Hp), H' t = some (.tup [.ref l, .ref m]) → RowR rr (.ref l) H' → RowR cc (.ref m) H' → inB rr (br + 1) (br + 7) → inB cc (bc + 1) (bc + 7) → i ≤ i' → i' ≤ i + 9 → Sib q H H' → PenAt H' q c cs i' r' → Q (.ref t) H'
section
variable {K : PySem.W.Frag}
theorem lc_corner {H : Hp} {q c b : Addr} {cs : List Int} {i r m : Int} {xs : List V} {j bv : Int} {x3 x4 x5 : Option V} {Q : VK} (D0 : PenAt H q c cs i r) (hi : i < 2 ^ 38 + 5) (hb : H b = some (.tup xs)) (hj : atI xs j = some (.int bv)) (hm : 1 ≤ m ∧ m ≤ 7)
    (k : ∀ (pp : (Int × Bool) × (Int × Bool)) (l : Addr) (i' r' : Int) (H' : Hp), RowR pp (.ref l) H' → inB pp (bv + 1) (bv + m) → i ≤ i' → i' ≤ i + 4 → Sib q H H' → PenAt H' q c cs i' r' → Q (.ref l) H') :
    tLc (iRng1 (tCons (tC (.int 2)) tNil)) (gName 5) tYes (tTup (tCons (tOp (rI0 fun i j => .int (i + j)) (tOp (rI0 fun i j => .int (i + j)) (tOp (rIxT K) (tVar 1) (tC (.int j))) (tC (.int 1))) (tCall spDraw [] E0 (tCons (tVar 0) (tCons (tVar 2) tNil)))) (tCons (tOp rEq (tCall spDraw [] E0 (tCons (tVar 0) (tCons (tC (.int 3)) tNil))) (tC (.int 0))) tNil))) [5] [some (.ref q), some (.ref b), some (.int m), x3, x4, x5] H Q := by
  refine ⟨2, rfl, by decide, by decide, fun D nD => ?_⟩
  have hz : ((2 : Int).toNat) = 2 := rfl
  rw [hz]
  refine lc_range (lo := 0) (n := 2) (fun n H' => ∃ (i' r' : Int) (ys : List V), PenAt H' q c cs i' r' ∧ i ≤ i' ∧ i' ≤ i + 2 * n ∧ Sib q H H' ∧ H' D = some (.lst ys) ∧ ys.length = n ∧ ∀ (k : Nat) (v : V), ys[k]? = some v → ∃ t x, v = .ref t ∧ PrAt H' t x ∧ bv + 1 ≤ x.1 ∧ x.1 ≤ bv + m)
    ⟨i, r, [], D0.new nD, Int.le_refl _, by omega, Sib.new nD, upd_same, rfl, fun k v h => by simp at h⟩ (fun n H1 hn p => ?_) (fun H1 p => ?_)
  · obtain ⟨i1, r1, ys, D1, j1, j2, s1, hD, hl, hy⟩ := p
    refine ⟨rfl, ?_⟩
    unfold tYes
    dsimp only
    rw [if_pos rfl]
    have hb1 : H1 b = some (.tup xs) := s1 _ _ (ne_of hb D0.hp (by intro z; cases z)) hb
    have hn2 : (n : Int) ≤ 1 := by omega
    refine (ev_op (ev_op (ev_var (v := .ref b) rfl) ev_c (rv_ixT (st_of hb1) hj)) ev_c rv_I0) H1 (Ex.refl H1) _ fun H2 e2 => ?_
    have D2 := D1.keep e2
    refine ⟨_, rfl, _, rfl, q, c, cs, i1, r1, m, rfl, D2, by omega, by omega, by omega, fun z i3 r3 H3 z0 z1 j3 j4 s3 D3 => ⟨_, _, rfl, rfl, ?_⟩⟩
    refine ⟨_, rfl, q, c, cs, i3, r3, 3, rfl, D3, by omega, by decide, by decide, fun y i4 r4 H4 y0 y1 j5 j6 s4 D4 => ⟨rfl, ?_⟩⟩
    refine ⟨by show 2 ≤ sizeLine; decide, fun t nt => ?_⟩
    have s24 : Sib q H1 H4 := (Sib.trans (fun b o _ h => e2 b o h) s3).trans s4
    have hD4 : H4 D = some (.lst ys) := s24 _ _ (ne_of hD D1.hp (by intro z; cases z)) hD
    refine ⟨ys, ?_, ?_, i4, r4, ys ++ [.ref t], ?_, by omega, by omega, ?_, upd_same, by rw [List.length_append, hl]; rfl, fun k v hk => ?_⟩
    · rw [upd_ne (ne_of_none hD4 nt)]; exact hD4
    · rw [hl]; show n < sizeLine; have : (2 : Nat) < sizeLine := by decide
      omega
    · have D5 := D4.new (o := .tup [.int (bv + 1 + z), .bl (decide (V.int y = V.int 0))]) nt
      refine ⟨?_, ?_, D5.hl, D5.h0, D5.h1⟩
      · rw [upd_ne (ne_of D5.hp (by rw [upd_ne (ne_of_none hD4 nt)]; exact hD4) (by intro z; cases z))]; exact D5.hp
      · have nd : D ≠ c := by
          intro z
          subst z
          have := D0.hc
          rw [nD] at this
          cases this
        rw [upd_ne nd.symm]; exact D5.hc
    · refine fun b' o n' hb' => ?_
      rw [upd_ne (ne_of_none hb' nD)]
      have h4 := s24 _ _ n' (s1 b' o n' hb')
      rw [upd_ne (ne_of_none h4 nt)]
      exact h4
    · have stay : ∀ {t' : Addr} {x : Int × Bool}, PrAt H1 t' x → PrAt (upd (upd H4 t (.tup [.int (bv + 1 + z), .bl (decide (V.int y = V.int 0))])) D (.lst (ys ++ [.ref t]))) t' x := fun {t' x} hp => by
        have h4 : H4 t' = some (.tup [.int x.1, .bl x.2]) := s24 _ _ (ne_of hp D1.hp (by intro z; cases z)) hp
        unfold PrAt
        rw [upd_ne (ne_of h4 hD4 (by intro z; cases z)), upd_ne (ne_of_none h4 nt)]
        exact h4
      by_cases hk2 : k < ys.length
      · rw [List.getElem?_append_left hk2] at hk
        obtain ⟨t', x, h1, h2, h3⟩ := hy k v hk
        exact ⟨t', x, h1, stay h2, h3⟩
      · rw [List.getElem?_append_right (by omega)] at hk
        have hk3 : k - ys.length = 0 := by
          cases hj : k - ys.length with
          | zero => rfl
          | succ j => rw [hj] at hk; cases hk
        rw [hk3] at hk
        cases hk
        refine ⟨t, (bv + 1 + z, decide (V.int y = V.int 0)), rfl, ?_, by show bv + 1 ≤ bv + 1 + z; omega, by show bv + 1 + z ≤ bv + m; omega⟩
        unfold PrAt
        have : t ≠ D := fun z => by
          rw [z, hD4] at nt
          cases nt
        rw [upd_ne this, upd_same]
  · obtain ⟨i1, r1, ys, D1, j1, j2, s1, hD, hl, hy⟩ := p
    match ys, hl, hD, hy with
    | [v, w], _, hD, hy =>
      obtain ⟨t1, x1, rfl, p1, b1⟩ := hy 0 v rfl
      obtain ⟨t2, x2, rfl, p2, b2⟩ := hy 1 w rfl
      exact k (x1, x2) D i1 r1 H1 ⟨D, t1, t2, rfl, hD, p1, p2⟩ ⟨b1, b2⟩ j1 (by omega) s1 D1
end
section
variable {P : Program} {w : World} {K : PySem.W.Frag} {mg : Str → Option Value} {base : Heap} {ph : AdL} {pc : Ads} {pg : AdG} {pa : AdC} {D : Addr} {p : AdR} {mv : List Value} {pn : AdN6} {pl : AdW}

theorem ok_l_corners (TH : TxtH K mg ph) (TL : TxtL K mg pl) : FnOk P w K mg base CX0 2 pl.f_corners pl.d_corners P_l_corners spCorners := by
  have TA : TxtA mg := ⟨TH.n_list, TH.n_int, TH.n_len⟩
  have G_l_draw : FnOk P w K mg base CX0 1 ph.f_draw ph.d_draw P_l_draw spDraw := ok_l_draw TH.F_l_draw TA
  refine TL.F_l_corners.ok sc_l_corners (fun vs H Q E h => ?_) (fun cdv A outer s H vs Q E hr h => ?_)
  · obtain ⟨q, c, b, cs, i, r, br, bc, rfl, _⟩ := h
    rfl
  · obtain ⟨q, c, b, cs, i, r, br, bc, rfl, D0, hi, hb, b1, b2, k⟩ := h
    refine ⟨_, (pss_cons (ps_set (i := 2) sc_l_corners.nd rfl (Or.inr rfl) (pe_op op_add pe_int (pe_op op_mul (pe_call G_l_draw (hr.mono (by decide)) (by rfl) TH.mg_l_draw TH.F_l_draw.kp TH.b_l_draw .nil pass0 (pa_cons (pv 0) (pa_cons pe_int pa_nil))) pe_int)))
      (pss_cons (ps_setLc (i := 3) (own := [("_law_turn", 5)]) (g := gName 5) (tt := tYes) rfl sc_l_corners.nd rfl rfl (sw_true rfl rfl rfl (by decide +kernel)) (pi_range1 (by rfl) TH.n_range (pa_cons pe_int pa_nil)) (blkOk_by (own := [("_law_turn", 5)]) (N := N_l_corners) (sc := defScope s_l_corners) (by decide +kernel)) (fun _ _ _ _ _ => pg_name (i := 5) sc_l_corners.nd rfl (Or.inl rfl)) (fun _ _ _ _ _ => pts_nil) (fun _ _ _ _ _ => (pe_tup (pa_cons (pe_op op_add (pe_op op_add (pe_ix (r := rIxT K) ix_tup (pv 1) pe_int (fun _ _ => rfl)) pe_int) (pe_call G_l_draw (hr.mono (by decide)) (by rfl) TH.mg_l_draw TH.F_l_draw.kp TH.b_l_draw .nil pass0 (pa_cons (pv 0) (pa_cons (pv 2) pa_nil)))) (pa_cons (pe_cmpR op_eq (pe_call G_l_draw (hr.mono (by decide)) (by rfl) TH.mg_l_draw TH.F_l_draw.kp TH.b_l_draw .nil pass0 (pa_cons (pv 0) (pa_cons pe_int pa_nil))) pe_int (nomark _)) pa_nil)))))
      (pss_cons (ps_setLc (i := 4) (own := [("_law_turn", 5)]) (g := gName 5) (tt := tYes) rfl sc_l_corners.nd rfl rfl (sw_true rfl rfl rfl (by decide +kernel)) (pi_range1 (by rfl) TH.n_range (pa_cons pe_int pa_nil)) (blkOk_by (own := [("_law_turn", 5)]) (N := N_l_corners) (sc := defScope s_l_corners) (by decide +kernel)) (fun _ _ _ _ _ => pg_name (i := 5) sc_l_corners.nd rfl (Or.inl rfl)) (fun _ _ _ _ _ => pts_nil) (fun _ _ _ _ _ => (pe_tup (pa_cons (pe_op op_add (pe_op op_add (pe_ix (r := rIxT K) ix_tup (pv 1) pe_int (fun _ _ => rfl)) pe_int) (pe_call G_l_draw (hr.mono (by decide)) (by rfl) TH.mg_l_draw TH.F_l_draw.kp TH.b_l_draw .nil pass0 (pa_cons (pv 0) (pa_cons (pv 2) pa_nil)))) (pa_cons (pe_cmpR op_eq (pe_call G_l_draw (hr.mono (by decide)) (by rfl) TH.mg_l_draw TH.F_l_draw.kp TH.b_l_draw .nil pass0 (pa_cons (pv 0) (pa_cons pe_int pa_nil))) pe_int (nomark _)) pa_nil)))))
      (pss_one (ps_ret (pe_tup (pa_cons (pv 3) (pa_cons (pv 4) pa_nil)))))))), ?_⟩
    refine q_asgK ?_
    refine ⟨_, rfl, q, c, cs, i, r, 3, rfl, D0, by omega, by decide, by decide, fun z i1 r1 H1 z0 z1 j0 j1 s1 D1 => ⟨z, 3, rfl, rfl, .inr (by decide), 1, _, rfl, rfl, ?_⟩⟩
    have hb1 := s1 _ _ (ne_of hb D0.hp (by intro z; cases z)) hb
    refine q_asgK (lc_corner (xs := [.int br, .int bc]) (j := 0) D1 (by omega) hb1 rfl ⟨by omega, by omega⟩ fun rr l i2 r2 H2 hr2 hb2 j2 j3 s2 D2 => ?_)
    have hb3 := s2 _ _ (ne_of hb1 D1.hp (by intro z; cases z)) hb1
    refine q_asgK (lc_corner (xs := [.int br, .int bc]) (j := 1) D2 (by omega) hb3 rfl ⟨by omega, by omega⟩ fun cc m i4 r4 H4 hr4 hb4 j4 j5 s4 D4 => ?_)
    refine ⟨_, rfl, _, rfl, by show 2 ≤ sizeLine; decide, fun t nt => ?_⟩
    have hr5 := hr2.sib D2.hp s4
    have wide : ∀ {pp : (Int × Bool) × (Int × Bool)} {a : Int}, inB pp (a + 1) (a + (1 + z * 3)) → inB pp (a + 1) (a + 7) := fun {pp a} h => by
      unfold inB at h ⊢
      omega
    exact k t l m rr cc i4 r4 _ upd_same (mon_row _ _ _ (Ex.new nt) hr5) (mon_row _ _ _ (Ex.new nt) hr4) (wide hb2) (wide hb4) (by omega) (by omega) (((s1.trans s2).trans s4).trans (Sib.new nt)) (D4.new nt)
end
end K18

set_option Elab.async false
set_option linter.all false
set_option maxRecDepth 100000
set_option maxHeartbeats 4000000
namespace K18
open PySem PySem.Spec PyProof.Rows L2 Pen EV2 Evl TX LamX
def Third : List Nat := [84, 104, 105, 114, 100]
/-- a sheet of the law's -/
def ShP (v : V) : Prop := ∃ sh, v = shV sh ∧ shOk sh ∧ shGood sh = true ∧ True
/-- on the grid, its sheet one of the law's -/
structure LOk (A : Ar) : Prop where
  on : A.On
  sp : True
def spAreaL (K : PySem.W.Frag) : Sp := fun vs H Q _ => ∃ (q c b sl : Addr) (cs : List Int) (i r br bc : Int) (ss : List V), vs = [.ref q, .ref b, .ref sl] ∧ PenAt H q c cs i r ∧ i < 2 ^ 37 ∧ H b = some (.tup [.int br, .int bc]) ∧ (0 ≤ br ∧ br ≤ 999993) ∧ (0 ≤ bc ∧ bc ≤ 18271) ∧
  H sl = some (.lst ss) ∧ 0 < ss.length ∧ ss.length < 2 ^ 29 ∧ (∀ x ∈ ss, ShP x) ∧ sl ≠ c ∧
  ∀ (t : Addr) (A : Ar) (i' r' : Int) (H' : Hp), LawAt H' t A → LOk A → i ≤ i' → i' ≤ i + 11 → Sib q H H' → PenAt H' q c cs i' r' → Q (.ref t) H'
theorem wh_mem {x : V} (h : x ∈ [V.non, .non, .non, .str "columns", .str "rows"]) : ∃ w, x = whV w := by
  simp only [List.mem_cons, List.not_mem_nil, or_false] at h
  rcases h with rfl | rfl | rfl | rfl | rfl
  · exact ⟨.no, rfl⟩
  · exact ⟨.no, rfl⟩
  · exact ⟨.no, rfl⟩
  · exact ⟨.cols, rfl⟩
  · exact ⟨.rows, rfl⟩
section
variable {P : Program} {w : World} {K : PySem.W.Frag} {mg : Str → Option Value} {base : Heap} {ph : AdL} {pc : Ads} {pg : AdG} {pa : AdC} {D : Addr} {p : AdR} {mv : List Value} {pn : AdN6} {pl : AdW}

theorem ok_l_area (TH : TxtH K mg ph) (TL : TxtL K mg pl) : FnOk P w K mg base CX0 4 pl.f_area pl.d_area P_l_area (spAreaL K) := by
  have TA : TxtA mg := ⟨TH.n_list, TH.n_int, TH.n_len⟩
  have G_l_pick : FnOk P w K mg base CX0 2 ph.f_pick ph.d_pick P_l_pick (spPick K) := ok_l_pick TH.F_l_pick TA TH.F_l_draw TH.b_l_draw TH.mg_l_draw
  have G_l_corners : FnOk P w K mg base CX0 2 pl.f_corners pl.d_corners P_l_corners spCorners := ok_l_corners TH TL
  refine TL.F_l_area.ok sc_l_area (fun vs H Q E h => ?_) (fun cdv A outer s H vs Q E hr h => ?_)
  · obtain ⟨q, c, b, sl, cs, i, r, br, bc, ss, rfl, _⟩ := h
    rfl
  · obtain ⟨q, c, b, sl, cs, i, r, br, bc, ss, rfl, D0, hi, hb, b1, b2, hs, l1, l2, hS, nc, k⟩ := h
    refine ⟨_, (pss_cons (ps_asg (pe_call G_l_corners (hr.mono (by decide)) (by rfl) TL.mg_l_corners TL.F_l_corners.kp TL.b_l_corners .nil pass0 (pa_cons (pv 0) (pa_cons (pv 1) pa_nil))) (pg_tup (by rfl) (pgs_cons (pg_name (i := 3) sc_l_area.nd rfl (Or.inl rfl)) (pgs_cons (pg_name (i := 4) sc_l_area.nd rfl (Or.inl rfl)) pgs_nil))))
      (pss_cons (ps_set (i := 5) sc_l_area.nd rfl (Or.inl rfl) (pe_call G_l_pick (hr.mono (by decide)) (by rfl) TH.mg_l_pick TH.F_l_pick.kp TH.b_l_pick .nil pass0 (pa_cons (pv 0) (pa_cons (pe_lst (pa_cons pe_non (pa_cons pe_non (pa_cons pe_non (pa_cons pe_str (pa_cons pe_str pa_nil)))))) pa_nil))))
      (pss_one (ps_ret (pe_tup (pa_cons (pv 3) (pa_cons (pv 4) (pa_cons (pv 5) (pa_cons (pe_call G_l_pick (hr.mono (by decide)) (by rfl) TH.mg_l_pick TH.F_l_pick.kp TH.b_l_pick .nil pass0 (pa_cons (pv 0) (pa_cons (pv 2) pa_nil))) pa_nil))))))))), ?_⟩
    refine ⟨_, rfl, _, rfl, q, c, b, cs, i, r, br, bc, rfl, D0, by omega, hb, b1, b2, fun t l m rr cc i1 r1 H1 ht hr hc br1 bc1 j0 j1 s1 D1 => ?_⟩
    refine ⟨t, _, rfl, st_of ht, rfl, _, _, rfl, _, _, rfl, rfl, ?_⟩
    dsimp only
    refine q_asgK ?_
    refine ⟨_, rfl, by show 5 ≤ sizeLine; decide, fun u nu => ?_⟩
    have D2 := D1.new (o := .lst [.non, .non, .non, .str "columns", .str "rows"]) nu
    refine ⟨q, c, cs, i1, r1, u, _, rfl, D2, by omega, sq_of upd_same, by decide, by decide, ne_of upd_same D2.hp (by intro z; cases z), fun x i3 r3 H3 hx j2 j3 s3 D3 => ?_⟩
    obtain ⟨wh, rfl⟩ := wh_mem hx
    have s13 : Sib q H1 H3 := (Sib.new nu).trans s3
    have hs3 : H3 sl = some (.lst ss) := s13 _ _ (ne_of (s1 _ _ (ne_of hs D0.hp (by intro z; cases z)) hs) D1.hp (by intro z; cases z)) (s1 _ _ (ne_of hs D0.hp (by intro z; cases z)) hs)
    refine ⟨_, rfl, _, rfl, _, rfl, _, rfl, _, rfl, q, c, cs, i3, r3, sl, ss, rfl, D3, by omega, sq_of hs3, l1, l2, ne_of hs3 D3.hp (by intro z; cases z), fun x i4 r4 H4 hx j4 j5 s4 D4 => ?_⟩
    obtain ⟨sh, rfl, so, sg2, sp⟩ := hS x hx
    refine ⟨by show 4 ≤ sizeLine; decide, fun v nv => ?_⟩
    have e := Ex.new (o := HO.tup [V.ref l, V.ref m, whV wh, shV sh]) nv
    have s14 := s13.trans s4
    have hr4 := mon_row _ _ _ e (hr.sib D1.hp s14)
    have hc4 := mon_row _ _ _ e (hc.sib D1.hp s14)
    unfold inB at br1 bc1
    exact k v ⟨rr, cc, wh, sh⟩ i4 r4 _ ⟨l, m, upd_same, hr4, hc4⟩ ⟨⟨⟨⟨by show 1 ≤ rr.1.1; omega, by show rr.1.1 ≤ 1000000; omega⟩, by show 1 ≤ cc.1.1; omega, by show cc.1.1 ≤ 18278; omega⟩, ⟨⟨by show 1 ≤ rr.2.1; omega, by show rr.2.1 ≤ 1000000; omega⟩, by show 1 ≤ cc.2.1; omega, by show cc.2.1 ≤ 18278; omega⟩, so, sg2⟩, sp⟩ (by omega) (by omega) ((s1.trans s14).trans (Sib.new nv)) (D4.new nv)
/-- the pairs in their order; a lambda is made on the way -/
def spInOrder (TT : List (Addr × Str)) : Sp := fun vs H Q _ => ∃ (l : Addr) (pp : (Int × Bool) × (Int × Bool)), vs = [.ref l] ∧ RowR pp (.ref l) H ∧ Tabs TT H ∧ ∀ v H', ExtN H H' → Tabs TT H' → RowR (ordP pp.1 pp.2) v H' → Q v H'
def spNormal (TT : List (Addr × Str)) : Sp := fun vs H Q _ => ∃ (t : Addr) (A : Ar), vs = [.ref t] ∧ LawAt H t A ∧ Tabs TT H ∧ ∀ v H', ExtN H H' → Tabs TT H' → LawR A.norm v H' → Q v H'
theorem RowR.extN {H H' : Hp} {pp : (Int × Bool) × (Int × Bool)} {v : V} (h : RowR pp v H) (e : ExtN H H') : RowR pp v H' := by
  obtain ⟨u, x, y, rfl, hu, hx, hy⟩ := h
  exact ⟨u, x, y, rfl, e _ _ hu (fun _ z => by cases z), e _ _ hx (fun _ z => by cases z), e _ _ hy (fun _ z => by cases z)⟩
theorem ok_l_normal {TT : List (Addr × Str)} (TH : TxtH K mg ph) (TL : TxtL K mg pl) (G_l_in_order : FnOk P w K mg base CX0 4 pl.f_in_order pl.d_in_order P_l_in_order (spInOrder TT)) : FnOk P w K mg base CX0 6 pl.f_normal pl.d_normal P_l_normal (spNormal TT) := by
  refine TL.F_l_normal.ok sc_l_normal (fun vs H Q E h => ?_) (fun cdv A outer s H vs Q E hr h => ?_)
  · obtain ⟨t, A, rfl, _⟩ := h
    rfl
  · obtain ⟨t, A, rfl, ⟨l, m, ht, hl, hm⟩, hT, k⟩ := h
    refine ⟨_, (pss_cons (ps_asg (pv 0) (pg_tup (by rfl) (pgs_cons (pg_name (i := 1) sc_l_normal.nd rfl (Or.inl rfl)) (pgs_cons (pg_name (i := 2) sc_l_normal.nd rfl (Or.inl rfl)) (pgs_cons (pg_name (i := 3) sc_l_normal.nd rfl (Or.inl rfl)) (pgs_cons (pg_name (i := 4) sc_l_normal.nd rfl (Or.inl rfl)) pgs_nil))))))
      (pss_cons (ps_par (i := 1) (j := 2) (by rfl) sc_l_normal.nd rfl rfl (by decide) rfl rfl (pa_cons (pe_call G_l_in_order (hr.mono (by decide)) (by rfl) TL.mg_l_in_order TL.F_l_in_order.kp TL.b_l_in_order .nil pass0 (pa_cons (pv 1) pa_nil)) (pa_cons (pe_call G_l_in_order (hr.mono (by decide)) (by rfl) TL.mg_l_in_order TL.F_l_in_order.kp TL.b_l_in_order .nil pass0 (pa_cons (pv 2) pa_nil)) pa_nil)) (by rfl))
      (pss_cons (ps_if (pt_cmpR op_eq (pv 3) pe_str (nomark _)) (pss_one (ps_set (i := 1) sc_l_normal.nd rfl (Or.inl rfl) (pe_lst (pa_cons (pe_tup (pa_cons pe_int (pa_cons pe_bl pa_nil))) (pa_cons (pe_tup (pa_cons pe_int (pa_cons pe_bl pa_nil))) pa_nil))))) pss_nil)
      (pss_cons (ps_if (pt_cmpR op_eq (pv 3) pe_str (nomark _)) (pss_one (ps_set (i := 2) sc_l_normal.nd rfl (Or.inl rfl) (pe_lst (pa_cons (pe_tup (pa_cons pe_int (pa_cons pe_bl pa_nil))) (pa_cons (pe_tup (pa_cons pe_int (pa_cons pe_bl pa_nil))) pa_nil))))) pss_nil)
      (pss_one (ps_ret (pe_tup (pa_cons (pv 1) (pa_cons (pv 2) (pa_cons (pv 3) (pa_cons (pv 4) pa_nil))))))))))), ?_⟩
    refine ⟨_, rfl, t, _, rfl, st_of ht, rfl, _, _, rfl, _, _, rfl, _, _, rfl, _, _, rfl, rfl, ?_⟩
    dsimp only
    refine ⟨_, rfl, l, A.ro, rfl, hl, hT, fun v1 H1 e1 T1 r1 => ?_⟩
    refine ⟨_, rfl, m, A.co, rfl, hm.extN e1, T1, fun v2 H2 e2 T2 r2 => ⟨_, _, rfl, ?_⟩⟩
    dsimp only
    have r12 := r1.extN e2
    have cq : ∀ {σ : L2.St} {H' : Hp} {z : Str} {u : Wh}, σ[3]? = some (some (whV A.wh)) → whV u = .str z → EvT (tTest (tOp rEq (tVar 3) (tC (.str z)))) σ H' (decide (A.wh = u)) := fun {σ H' z u} hi hz => by
      have h1 : decide (whV A.wh = V.str z) = decide (A.wh = u) := by
        rw [← hz]
        cases A.wh <;> cases u <;> first | rfl | decide +kernel
      rw [← h1]
      exact et_test (ev_op (ev_var hi) ev_c (rv_eq (by cases A.wh <;> rfl)))
    have pc2 : ∀ {σ : L2.St} {H' : Hp} {a b : Int} {x y : Bool}, EvQ (tLst (tCons (tTup (tCons (tC (.int a)) (tCons (tC (.bl x)) tNil))) (tCons (tTup (tCons (tC (.int b)) (tCons (tC (.bl y)) tNil))) tNil))) σ H' (RowR ((a, x), (b, y))) := fun {σ H' a b x y} =>
      (evq_lst2 (evq_new (eu_tup (vs := [.int a, .bl x]) (ea_cons ev_c (ea_cons ev_c ea_nil)) (by show 2 ≤ 100000; decide))) (evq_new (eu_tup (vs := [.int b, .bl y]) (ea_cons ev_c (ea_cons ev_c ea_nil)) (by show 2 ≤ 100000; decide))) mon_tup mon_tup).to fun v H' e ⟨u, a, b, hv, hu, ⟨a', ha, ha2⟩, ⟨b', hb, hb2⟩⟩ => by
        subst hv ha hb
        exact ⟨u, a', b', rfl, hu, ha2, hb2⟩
    refine q_ifQ (i := 1) (R := RowR A.norm.ro) (v0 := v1) (cq (u := .cols) rfl rfl) (fun hb => ?_) (fun hb => ⟨rfl, ?_⟩) mon_row fun v3 H3 e3 h3 => ?_
    · have z : A.norm.ro = ((1, false), (1000000, false)) := if_pos (of_decide_eq_true hb)
      rw [z]
      exact pc2
    · have z : A.norm.ro = ordP A.ro.1 A.ro.2 := if_neg (of_decide_eq_false hb)
      rw [z]
      exact r12
    refine q_ifQ (i := 2) (R := RowR A.norm.co) (v0 := v2) (cq (u := .rows) rfl rfl) (fun hb => ?_) (fun hb => ⟨rfl, ?_⟩) mon_row fun v4 H4 e4 h4 => ?_
    · have z : A.norm.co = ((1, false), (18278, false)) := if_pos (of_decide_eq_true hb)
      rw [z]
      exact pc2
    · have z : A.norm.co = ordP A.co.1 A.co.2 := if_neg (of_decide_eq_false hb)
      rw [z]
      exact mon_row _ _ _ e3 r2
    have h34 := mon_row _ _ _ e4 h3
    refine ⟨_, rfl, _, rfl, _, rfl, _, rfl, by show 4 ≤ sizeLine; decide, fun v nv => ?_⟩
    have e := Ex.new (o := HO.tup [v3, v4, whV A.wh, shV A.sh]) nv
    have h34' := mon_row _ _ _ e h34
    have h44' := mon_row _ _ _ e h4
    have exT : ∀ b o, H2 b = some o → (upd H4 v (.tup [v3, v4, whV A.wh, shV A.sh])) b = some o := fun b o hb => e _ _ (e4 _ _ (e3 _ _ hb))
    have h34c := h34'
    have h44c := h44'
    obtain ⟨u1, _, _, hv3, _⟩ := h34c
    obtain ⟨u2, _, _, hv4, _⟩ := h44c
    subst hv3 hv4
    exact k _ _ ((e1.trans e2).trans (ExtN.of exT)) (T2.ext exT) ⟨v, rfl, u1, u2, upd_same, h34', h44'⟩
end
end K18

set_option Elab.async false
set_option linter.all false
set_option maxRecDepth 100000
set_option maxHeartbeats 4000000
namespace K18
open PySem PySem.Spec PyProof.Rows L2 Pen EV2 Evl TX LamX
/-- all stays but dicts and tables -/
def KA (H H' : Hp) : Prop := ∀ a o, H a = some o → (∀ kv, o ≠ .dK kv) → (∀ ps, o ≠ .tbl ps) → H' a = some o
theorem KA.refl (H : Hp) : KA H H := fun _ _ h _ _ => h
theorem KA.trans {H H1 H2 : Hp} (a : KA H H1) (b : KA H1 H2) : KA H H2 := fun x o h n m => b x o (a x o h n m) n m
theorem ka_ex {H H' : Hp} (e : Ex H H') : KA H H' := fun a o h _ _ => e a o h
theorem ka_extN {H H' : Hp} (e : ExtN H H') : KA H H' := fun a o h _ m => e a o h m
theorem ka_sib {H H' : Hp} {q c : Addr} {cs : List Int} {i r : Int} (D : PenAt H q c cs i r) (s : Sib q H H') : KA H H' := fun a o h n _ => s a o (fun z => by
  subst z
  rw [D.hp] at h
  cases h
  exact n _ rfl) h
theorem KA.tup {H H' : Hp} {a : Addr} {xs : List V} (k : KA H H') (h : H a = some (.tup xs)) : H' a = some (.tup xs) := k a _ h (fun _ z => by cases z) (fun _ z => by cases z)
theorem KA.lst {H H' : Hp} {a : Addr} {xs : List V} (k : KA H H') (h : H a = some (.lst xs)) : H' a = some (.lst xs) := k a _ h (fun _ z => by cases z) (fun _ z => by cases z)
theorem KA.kpn {H H' : Hp} (k : KA H H') : KpN H H' := fun a C dx fs h => k a _ h (fun _ z => by cases z) (fun _ z => by cases z)
theorem RowR.ka {H H' : Hp} {pp : (Int × Bool) × (Int × Bool)} {v : V} (h : RowR pp v H) (k : KA H H') : RowR pp v H' := by
  obtain ⟨u, x, y, rfl, hu, hx, hy⟩ := h
  exact ⟨u, x, y, rfl, k.lst hu, k.tup hx, k.tup hy⟩
theorem LawAt.ka {H H' : Hp} {t : Addr} {A : Ar} (h : LawAt H t A) (k : KA H H') : LawAt H' t A := let ⟨l, m, h1, h2, h3⟩ := h; ⟨l, m, k.tup h1, h2.ka k, h3.ka k⟩
theorem AreaAt.ka {CA C : Addr} {H H' : Hp} {a : Addr} {A : Ar} (h : AreaAt CA C H a A) (k : KA H H') : AreaAt CA C H' a A := h.kp k.kpn
theorem AdrAt.ka {C : Addr} {H H' : Hp} {a : Addr} {r c : Int × Bool} {sh : Option (List Nat)} (h : AdrAt C H a r c sh) (k : KA H H') : AdrAt C H' a r c sh := h.kp k.kpn
theorem sh_mem {x : V} (h : x ∈ [V.non, .str "one", .str "TWO"]) : ∃ sh, x = shV sh ∧ shOk sh ∧ shGood sh = true := by
  simp only [List.mem_cons, List.not_mem_nil, or_false] at h
  rcases h with rfl | rfl | rfl
  · exact ⟨none, rfl, trivial, rfl⟩
  · exact ⟨some [111, 110, 101], by decide +kernel, ⟨by decide, by decide⟩, by decide +kernel⟩
  · exact ⟨some [84, 87, 79], by decide +kernel, ⟨by decide, by decide⟩, by decide +kernel⟩
section
variable {P : Program} {w : World} {K : PySem.W.Frag} {mg : Str → Option Value} {base : Heap} {ph : AdL} {pc : Ads} {pg : AdG} {pa : AdC} {D : Addr} {p : AdR} {mv : List Value} {pn : AdN6} {pl : AdW}

end
end K18

set_option Elab.async false
set_option linter.all false
set_option maxRecDepth 100000
set_option maxHeartbeats 4000000
namespace K18
open PySem PySem.Spec PyProof.Rows L2 Pen EV2 Evl TX LamX PySem.W
def kD (p : Int × Bool) : PyData := .tuple [.int p.1, .bool (!p.2)]
theorem le_pair (p q : Int × Bool) : PySem.W.dataLe false kD p q = decide (p.1 < q.1 ∨ (p.1 = q.1 ∧ (p.2 = true ∨ q.2 = false))) := by
  have bl : ∀ {a b : Int} {r t : List (Int ⊕ List Nat)}, lexLt itemOrd (.inl a :: r) (.inl b :: t) = (decide (a < b) || (!decide (b < a) && lexLt itemOrd r t)) := fun {a b r t} => lex_cons (O := itemOrd) (.inl a) (.inl b) r t
  show (!(lexLt itemOrd (.inl 1 :: .inl q.1 :: .inl 1 :: .inl (if (!q.2) = true then 1 else 0) :: .inl 0 :: []) (.inl 1 :: .inl p.1 :: .inl 1 :: .inl (if (!p.2) = true then 1 else 0) :: .inl 0 :: []))) = _
  rw [bl, bl, bl, bl, bl]
  have e0 : lexLt itemOrd ([] : List (Int ⊕ List Nat)) [] = false := lex_irrefl (O := itemOrd) []
  rw [e0]
  obtain ⟨a, x⟩ := p
  obtain ⟨b, y⟩ := q
  dsimp only
  rcases Int.lt_trichotomy a b with h | h | h
  · have h1 : ¬ b < a := by omega
    simp [h, h1]
  · subst h
    cases x <;> cases y <;> simp
  · have h1 : ¬ a < b := by omega
    have h2 : ¬ a = b := by omega
    simp [h, h1, h2]
theorem sort_two (p q : Int × Bool) : [p, q].mergeSort (PySem.W.dataLe false kD) = [(ordP p q).1, (ordP p q).2] := by
  have h : [p, q].mergeSort (PySem.W.dataLe false kD) = if PySem.W.dataLe false kD p q = true then [p, q] else [q, p] := by
    simp [List.mergeSort, List.merge, List.MergeSort.Internal.splitInTwo]
  rw [h, le_pair]
  unfold ordP
  obtain ⟨a, x⟩ := p
  obtain ⟨b, y⟩ := q
  dsimp only
  by_cases e : a = b
  · subst e
    rw [if_pos rfl]
    cases x <;> cases y <;> simp
  · rw [if_neg e]
    by_cases h : a < b
    · rw [if_pos h, if_pos (by simp [h])]
    · rw [if_neg h, if_neg (by simp [h, e])]
/-- sorted(pairs, key=lambda pair: (pair[0], not pair[1])) of two pairs -/
def tSortLam (TT : List (Addr × Str)) (te : L2.TA) : TE := fun σ H Q => te σ H fun vs H1 => ∃ l x y p q, vs = [.ref l] ∧ H1 l = some (.lst [.ref x, .ref y]) ∧ PrAt H1 x p ∧ PrAt H1 y q ∧ Tabs TT H1 ∧
  ∀ D x' y' H2, ExtN H1 H2 → Tabs TT H2 → H2 D = some (.lst [.ref x', .ref y']) → PrAt H2 x' (ordP p q).1 → PrAt H2 y' (ordP p q).2 → Q (.ref D) H2
theorem pe_sortLam {X : Cx} {TT : List (Addr × Str)} {c P : Addr} {e : Expr} {te : L2.TA} {params : Arguments} {scope : Scope} {nx : Str} {p1 p2 p3 p4 p5 p6 p7 p8 pf lpos kpos pos : Pos} {k1 k2 k3 : Nat} (hg : Gl X "sorted") (hm : X.mg "sorted" = none) (ha : PA X [e] te)
    (TB : TabB X.base X.mg c P) (hcode : X.env.code = .ref c) (hmT : (P, X.env.qual ++ "<lambda>") ∈ TT) (hu : ∀ p ∈ TT, p.1 = P → p.2 = X.env.qual ++ "<lambda>") (hr : Room 3 X.A) (hdef : defaultsOf params X.env = ([], []))
    (hco : scope.isCoroutine = false) (hgen : scope.isGenerator = false) (hk : scope.kind = .function) (hnc : ∀ y ∈ scope.names, y.2 ≠ .cell ∧ y.2 ≠ .free) (hl : scope.names.lookup nx = some .local) (hd : (nx == ("__debug__" : Str)) = false) (hclo : cloFrom X.env.cells scope.names [] = [])
    (hbind : ∀ (q : Str) (pm cv ctv : Value) (a : Addr), bindArgs (PySem.W.kla_fn "<lambda>" q params (.Tuple [.Subscript (.Name nx p1) (.Constant (.int 0) k1 p2) p3, .UnaryOp .Not (.Subscript (.Name nx p4) (.Constant (.int 1) k2 p5) p6) p7] k3 p8) scope [] pm cv ctv) ⟨[.ref a], []⟩ = pure [(nx, .ref a)])
    (hst : backTo pos (starEach [e] X.env) = (false, eval e X.env) :: backTo pos (starEach [] X.env) := by rfl) (hpl : (backTo pos (starEach [e] X.env)).any (·.1) = false := by rfl) :
    PE X (.Call (.Name "sorted" pf) [e] [⟨some "key", .Lambda params (.Tuple [.Subscript (.Name nx p1) (.Constant (.int 0) k1 p2) p3, .UnaryOp .Not (.Subscript (.Name nx p4) (.Constant (.int 1) k2 p5) p6) p7] k3 p8) scope lpos, kpos⟩] pos) (tSortLam TT te) := by
  refine ⟨fun pins s σ H Q I h => ?_⟩
  refine wpAny_Call_Name_kw (ld_blt I hg hm (u := .builtin "sorted") (by decide +kernel) ?_)
  refine PyProof.Rows.callWith_kw (thn (ha.run pos pins s σ H _ I h) fun us s1 ⟨vs, H1, I1, r1, q1⟩ => ?_) hst hpl rfl rfl
  obtain ⟨l, x, y, p, q, rfl, hl1, hx1, hy1, hT1, k⟩ := q1
  obtain ⟨ul, rfl, ru⟩ := vals1 r1
  cases ru
  show wpAny _ _ (evalAll [do let v ← eval (.Lambda params (.Tuple [.Subscript (.Name nx p1) (.Constant (.int 0) k1 p2) p3, .UnaryOp .Not (.Subscript (.Name nx p4) (.Constant (.int 1) k2 p5) p6) p7] k3 p8) scope lpos) X.env; standAt pos; pure v]) _ _ s1
  refine wpAny_evalAll_cons (wpAny_bind (lam_make2 I1 TB hcode hmT hu hT1 hdef (fun y hy e => absurd e (hnc y hy).2) fun f c' pm ctv H2 s2 I2 eN T2 hf hfn hfr hcd => wpAny_bind (wpAny_standAt (wpAny_pure (wpAny_evalAll_nil ?_)))))
  rw [hclo] at hf
  show wpAny (model X.prog X.w) X.A (call (.builtin "sorted") [.ref l] [(Str.ofString "key", .ref f)]) _ _ s2
  have hx2 : PrAt H2 x p := (ka_extN eN).tup hx1
  have hy2 : PrAt H2 y q := (ka_extN eN).tup hy1
  have hl2 : SqL X.K H2 l [.ref x, .ref y] := sq_of ((ka_extN eN).lst hl1)
  obtain ⟨its, rv, pl, hz⟩ := I2.list hl2
  have hits : its = [.ref x, .ref y] := by
    cases rv with
    | cons e1 rv =>
      cases rv with
      | cons e2 rv =>
        cases rv
        cases e1
        cases e2
        rfl
  subst hits
  obtain ⟨⟨oc, ovs, ot, hoc, hdc, hvc⟩, _, _⟩ := I2.hok c' _ hcd
  have hcr : s2.heap.CodeRec (.ref c') (X.env.qual ++ "<lambda>") := ⟨c', oc, ovs, ot, rfl, hoc, hdc, hvc⟩
  have R : ∀ {a : Addr} {z : Int × Bool}, PrAt H2 a z → ∃ (its : Array Value) (t : Tok), s2.heap.IsTuple a its ∧ its.toList = [.int z.1 t, .bool z.2] := fun {a z} h => by
    obtain ⟨it, r, ht, _⟩ := I2.tuple (st_of (K := X.K) h)
    cases r with
    | cons e1 r =>
      cases r with
      | cons e2 r =>
        cases r
        obtain ⟨t, rfl⟩ := e1
        cases e2
        exact ⟨_, t, ht, by simp⟩
  refine PySem.W.sorted_key_data (b := false) (β := Int × Bool) (R := fun v z => ∃ a, v = .ref a ∧ PrAt H2 a z) (bs := [p, q]) kD pl.isList (.cons ⟨x, rfl, hx2⟩ (.cons ⟨y, rfl, hy2⟩ .nil)) ?al (.inl ?so) (by show 2 ≤ sizeLine; decide) ?un (PyProof.Rows.ksk_s1 _ _) (fun _ => PyProof.Rows.ksk_l1 _ _) (fun a => PyProof.Rows.ksk_t1 f a) ?turn ?res
  case al =>
    intro d hd d' hd'
    simp only [List.map_cons, List.map_nil, List.mem_cons, List.not_mem_nil, or_false] at hd hd'
    rcases hd with rfl | rfl <;> rcases hd' with rfl | rfl <;> rfl
  case so =>
    intro d hd
    simp only [List.map_cons, List.map_nil, List.mem_cons, List.not_mem_nil, or_false] at hd
    rcases hd with rfl | rfl <;> exact ⟨_, _, rfl⟩
  case un =>
    intro z hz
    have := hr.un
    show X.A.units + 2 + 1 < cLine
    omega
  case turn =>
    rintro v z ⟨a, rfl, ha⟩ hz h tk hx
    obtain ⟨it, t, ht, hi⟩ := R ha
    obtain ⟨o, ho, hoc2, hod⟩ := ht
    exact lam_key (s := { s2 with heap := h, toks := tk }) (its := it) (n := z.1) (t := t) (b := z.2) hr.in1.in1.depth (hx _ _ hf) hco hgen hk (fun y hy => (hnc y hy).1) hl hd ⟨c', oc, ovs, ot, rfl, hx _ _ hoc, hdc, hvc⟩ (I2.nolimit.keeps hx) ⟨o, hx _ _ ho, hoc2, hod⟩ hi (hbind _ _ _ _ _)
  case res =>
    intro out cc h' tk hx fr ho hlen he
    rw [sort_two] at he
    cases he with
    | cons h1 he =>
      cases he with
      | cons h2 he =>
        cases he
        obtain ⟨x', rfl, px⟩ := h1
        obtain ⟨y', rfl, py⟩ := h2
        have nD : H2 (s2.heap.objs.size + 1) = none := I2.hok.fresh (Nat.le_succ _)
        have e3 := Ex.new (o := HO.lst [.ref x', .ref y']) nD
        exact ⟨.ref _, upd H2 (s2.heap.objs.size + 1) (.lst [.ref x', .ref y']), I2.laid (t' := tk) (fun b o e => hx b o e) (Nat.le_succ _) ⟨by show 2 ≤ sizeLine; decide, _, cc, .cons rfl (.cons rfl .nil), ho⟩, rfl, k _ x' y' _ (eN.trans (ExtN.of e3)) (T2.ext e3) upd_same (e3 _ _ px) (e3 _ _ py)⟩
end K18

set_option Elab.async false
set_option linter.all false
set_option maxRecDepth 100000
set_option maxHeartbeats 4000000
namespace K18
open PySem PySem.Spec PyProof.Rows L2 Pen EV2 Evl TX LamX
section
variable {P : Program} {w : World} {K : PySem.W.Frag} {mg : Str → Option Value} {base : Heap} {ph : AdL} {pc : Ads} {pg : AdG} {pa : AdC} {D : Addr} {p : AdR} {mv : List Value} {pn : AdN6} {pl : AdW} {CO CM iO iM fT NR : Addr} {dO dM dT : FuncData} {TT : List (Addr × Str)}
theorem ok_l_in_order (TH : TxtH K mg ph) {c P1 : Addr} (F : FunC K "_law_in_order" "_law_in_order" s_l_in_order pl.f_in_order c pl.d_in_order) (hTB : TabB base mg c P1) (hmT : (P1, qOf "_law_in_order") ∈ TT) (hu : ∀ x ∈ TT, x.1 = P1 → x.2 = qOf "_law_in_order") : FnOk P w K mg base CX0 4 pl.f_in_order pl.d_in_order P_l_in_order (spInOrder TT) := by
  refine F.ok sc_l_in_order (fun vs H Q E h => ?_) (fun A outer s H vs Q E hr h => ?_)
  · obtain ⟨l, pp, rfl, _⟩ := h
    rfl
  · obtain ⟨l, pp, rfl, ⟨u, x, y, el, hl, hx, hy⟩, hT, k⟩ := h
    cases el
    refine ⟨_, pss_one (ps_ret (pe_sortLam (TT := TT) (nx := "_law_pair") (by rfl) TH.n_sorted (pa_cons (pv 0) pa_nil) hTB rfl hmT hu (hr.mono (by decide)) rfl rfl rfl rfl (by decide +kernel) rfl (by decide) rfl (fun _ _ _ _ _ => rfl))), ?_⟩
    exact ⟨_, rfl, l, x, y, pp.1, pp.2, rfl, hl, hx, hy, hT, fun D x' y' H2 e2 T2 hD px py => k _ _ e2 T2 ⟨D, x', y', rfl, hD, px, py⟩⟩
end
end K18

set_option Elab.async false
set_option linter.all false
set_option maxRecDepth 100000
set_option maxHeartbeats 4000000
/-! partition by the sign ':'. -/
namespace TX
open PySem PySem.Spec PyProof.Rows L2 Evl
open L2 Evl
theorem at_58 (l : List Nat) (i : Nat) : StrLaws.At (S l) (S [58]) (S l).length i ↔ l[i]? = some 58 := by
  have hx : ∀ j, ((S l).cps.extract j (j + (S [58]).length)).toList = (l.drop j).take 1 := fun j => by
    have z := StrLaws.strSub_toList (S l) j (j + (S [58]).length)
    rw [toList_S] at z
    have e : j + (S [58]).length - j = 1 := by
      rw [len_S]
      simp
    rw [e] at z
    exact z
  unfold StrLaws.At
  rw [len_S, len_S]
  constructor
  · intro ⟨h1, h2⟩
    have h3 : (S l).cps.extract i (i + (S [58]).length) = (S [58]).cps := eq_of_beq h2
    have h4 := congrArg Array.toList h3
    rw [hx] at h4
    have h5 : (l.drop i).take 1 = [58] := h4
    have h6 : i < l.length := h1
    have h7 : (l[i] :: l.drop (i + 1)).take 1 = [58] := by
      rw [← List.drop_eq_getElem_cons h6]
      exact h5
    have h8 : [l[i]] = [58] := h7
    rw [List.getElem?_eq_getElem h6]
    rw [List.cons.inj h8 |>.1]
  · intro h
    have h6 : i < l.length := (List.getElem?_eq_some_iff.mp h).1
    refine ⟨h6, ?_⟩
    show ((S l).cps.extract i (i + (S [58]).length) == (S [58]).cps) = true
    refine beq_iff_eq.mpr (Array.toList_inj.mp ?_)
    rw [hx, List.drop_eq_getElem_cons h6]
    rw [List.getElem?_eq_getElem h6] at h
    have h7 := Option.some.inj h
    rw [h7]
    rfl
def firstCol : List Nat → Option (List Nat × List Nat)
  | [] => none
  | c :: r => if c = 58 then some ([], r) else match firstCol r with
    | some (a, b) => some (c :: a, b)
    | none => none
theorem fcol_none : ∀ {l : List Nat}, firstCol l = none → 58 ∉ l
  | [], _, h => by cases h
  | c :: r, e, h => by
    unfold firstCol at e
    by_cases z : c = 58
    · rw [if_pos z] at e
      cases e
    · rw [if_neg z] at e
      cases q : firstCol r with
      | some p => rw [q] at e; cases e
      | none =>
        rcases List.mem_cons.mp h with y | y
        · exact z y.symm
        · exact fcol_none q y
theorem fcol_some : ∀ {l a b : List Nat}, firstCol l = some (a, b) → l = a ++ 58 :: b ∧ 58 ∉ a
  | [], a, b, e => by cases e
  | c :: r, a, b, e => by
    unfold firstCol at e
    by_cases z : c = 58
    · rw [if_pos z] at e
      cases e
      exact ⟨by rw [z]; rfl, fun h => by cases h⟩
    · rw [if_neg z] at e
      cases q : firstCol r with
      | some p =>
        obtain ⟨a2, b2⟩ := p
        rw [q] at e
        cases e
        obtain ⟨h1, h2⟩ := fcol_some q
        refine ⟨by rw [h1]; rfl, fun h => ?_⟩
        rcases List.mem_cons.mp h with y | y
        · exact z y.symm
        · exact h2 y
      | none => rw [q] at e; cases e
theorem partc_S (l : List Nat) : Txt.partition (S l) (S [58]) = match firstCol l with
    | none => (S l, Str.empty, Str.empty)
    | some (a, b) => (S a, S [58], S b) := by
  unfold Txt.partition
  rcases StrLaws.occ_head (S l) (S [58]) 1 (Nat.le_refl _) with ⟨e, h⟩ | ⟨i, r, e, h, hn⟩
  · cases q : firstCol l with
    | none => rw [e]
    | some p =>
      obtain ⟨a, b⟩ := p
      obtain ⟨h1, _⟩ := fcol_some q
      have ha : l[a.length]? = some 58 := by
        rw [h1]
        simp
      exact absurd ((at_58 l _).mpr ha) (h _)
  · have hi := (at_58 l i).mp h
    cases q : firstCol l with
    | none => exact absurd (List.mem_of_getElem? hi) (fcol_none q)
    | some p =>
      obtain ⟨a, b⟩ := p
      obtain ⟨h1, h2⟩ := fcol_some q
      have ha : l[a.length]? = some 58 := by
        rw [h1]
        simp
      have ei : i = a.length := by
        rcases Nat.lt_trichotomy i a.length with c | c | c
        · exfalso
          rw [h1, List.getElem?_append_left c] at hi
          exact h2 (List.mem_of_getElem? hi)
        · exact c
        · exact absurd ((at_58 l _).mpr ha) (hn _ c)
      rw [e, ei]
      show (Builtin.Str.strSub (S l) 0 a.length, S [58], Builtin.Str.strSub (S l) (a.length + (S [58]).length) (S l).length) = (S a, S [58], S b)
      rw [sub_S, sub_S, len_S, len_S]
      have z1 : (l.drop 0).take (a.length - 0) = a := by
        rw [h1]
        simp
      have z2 : (l.drop (a.length + [58].length)).take (l.length - (a.length + [58].length)) = b := by
        rw [h1]
        simp
        have n : a.length + (b.length + 1) - (a.length + 1) = b.length := by omega
        rw [n, List.take_length]
      rw [z1, z2]
def cParts (l : List Nat) : List Nat × List Nat × List Nat := match firstCol l with
  | none => (l, [], [])
  | some (a, b) => (a, [58], b)
theorem partc_P (l : List Nat) : Txt.partition (S l) (S [58]) = (S (cParts l).1, S (cParts l).2.1, S (cParts l).2.2) := by
  rw [partc_S]
  unfold cParts
  cases firstCol l with
  | none => rfl
  | some p => rfl
abbrev rPtc : V → List V → Hp → VK → Prop := fun x xs H Q => ∃ a b, x = .str a ∧ xs = [.str b] ∧ (b.length == 0) = false ∧ a.length ≤ sizeLine ∧
    ∀ p, H p = none → Q (.ref p) (upd H p (.tup [.str (Txt.partition a b).1, .str (Txt.partition a b).2.1, .str (Txt.partition a b).2.2]))
theorem q_ptc {K : PySem.W.Frag} {σ : L2.St} {H : Hp} {te : TE} {l : List Nat} {g : TG} {tz : TS} {D : Ends} (h : Ev te σ H (.str (S l))) (hl : l.length ≤ 100000) (k : ∀ t H1, H t = none → Ex H H1 → H1 t = some (.tup [.str (S (cParts l).1), .str (S (cParts l).2.1), .str (S (cParts l).2.2)]) → g (.ref t) σ H1 (tz D)) :
    tSeq (tAsg (tBM K "str" rPtc te (tCons (tC (.str (Str.ofString ":"))) tNil)) g) tz D σ H :=
  h H (Ex.refl H) _ fun H1 e1 => ⟨rfl, S l, S [58], rfl, rfl, rfl, by rw [len_S]; exact sz_of hl, fun t ht => k t _ (fresh_back e1 ht) (e1.trans (Ex.new ht)) (by rw [upd_same, partc_P])⟩
theorem fcol_eq {l a b : List Nat} (h : l = a ++ 58 :: b) (n : 58 ∉ a) : firstCol l = some (a, b) := by
  cases q : firstCol l with
  | none => exact absurd (by rw [h]; simp) (fcol_none q)
  | some p =>
    obtain ⟨x, y⟩ := p
    obtain ⟨h1, h2⟩ := fcol_some q
    have e : a ++ 58 :: b = x ++ 58 :: y := by rw [← h, h1]
    rcases List.append_eq_append_iff.mp e with ⟨u, e1, e2⟩ | ⟨u, e1, e2⟩
    · cases u with
      | nil =>
        rw [List.append_nil] at e1
        cases e2
        rw [e1]
      | cons d u =>
        cases e2
        exact absurd (by rw [e1]; simp) h2
    · cases u with
      | nil =>
        rw [List.append_nil] at e1
        cases e2
        rw [e1]
      | cons d u =>
        cases e2
        exact absurd (by rw [e1]; simp) n
theorem fcol_no {l : List Nat} (h : 58 ∉ l) : firstCol l = none := by
  cases q : firstCol l with
  | none => rfl
  | some p =>
    obtain ⟨a, b⟩ := p
    exact absurd (by rw [(fcol_some q).1]; simp) h
theorem cParts_app {a b : List Nat} (n : 58 ∉ a) : cParts (a ++ 58 :: b) = (a, [58], b) := by
  unfold cParts
  rw [fcol_eq rfl n]
theorem cParts_no {l : List Nat} (n : 58 ∉ l) : cParts l = (l, [], []) := by
  unfold cParts
  rw [fcol_no n]
end TX

set_option Elab.async false
set_option linter.all false
set_option maxRecDepth 100000
set_option maxHeartbeats 4000000
namespace K18
open PySem PySem.Spec PyProof.Rows L2 Pen EV2 Evl TX LamX
abbrev s_corner_text : Stmt := topS 42
abbrev N_corner_text : List Str := ["corner", "whole"]
abbrev P_corner_text : List Str := ["corner", "whole"]
theorem sc_corner_text : FnScope N_corner_text P_corner_text (defScope s_corner_text) := ⟨rfl, rfl, rfl, by decide +kernel, rfl, by decide +kernel, by decide +kernel⟩
abbrev s_corners_text : Stmt := topS 41
abbrev N_corners_text : List Str := ["area"]
abbrev P_corners_text : List Str := ["area"]
theorem sc_corners_text : FnScope N_corners_text P_corners_text (defScope s_corners_text) := ⟨rfl, rfl, rfl, by decide +kernel, rfl, by decide +kernel, by decide +kernel⟩
abbrev s_area_text : Stmt := topS 40
abbrev N_area_text : List Str := ["area", "text", "one", "_", "other"]
abbrev P_area_text : List Str := ["area"]
theorem sc_area_text : FnScope N_area_text P_area_text (defScope s_area_text) := ⟨rfl, rfl, rfl, by decide +kernel, rfl, by decide +kernel, by decide +kernel⟩
abbrev s_read_area : Stmt := topS 43
abbrev N_read_area : List Str := ["text", "sheet", "mark", "body", "one", "between", "other", "named", "corner", "whole", "first", "last"]
abbrev P_read_area : List Str := ["text"]
theorem sc_read_area : FnScope N_read_area P_read_area (defScope s_read_area) := ⟨rfl, rfl, rfl, by decide +kernel, rfl, by decide +kernel, by decide +kernel⟩
abbrev s__read_corner : Stmt := topS 44
abbrev N__read_corner : List Str := ["text", "whole", "sheet", "fixed", "bare", "letters", "_", "digits"]
abbrev P__read_corner : List Str := ["text", "whole", "sheet"]
theorem sc__read_corner : FnScope N__read_corner P__read_corner (defScope s__read_corner) := ⟨rfl, rfl, rfl, by decide +kernel, rfl, by decide +kernel, by decide +kernel⟩
structure AdX where
  aS : Addr
  f_address_text : Addr
  d_address_text : FuncData
  f_read_address : Addr
  d_read_address : FuncData
  f_corner_text : Addr
  d_corner_text : FuncData
  f_corners_text : Addr
  d_corners_text : FuncData
  f_area_text : Addr
  d_area_text : FuncData
  f_read_area : Addr
  d_read_area : FuncData
  f__read_corner : Addr
  d__read_corner : FuncData
structure TxtX (K : PySem.W.Frag) (mg : Str → Option Value) (p : AdX) : Prop where
  n_str : mg "str" = none
  mg_SORTS : mg "SORTS" = some (.ref p.aS)
  s_SORTS : ∀ H, SqT K H p.aS [.non, .str "columns", .str "rows"]
  mg_address_text : mg "address_text" = some (.ref p.f_address_text)
  F_address_text : Fun K "address_text" "address_text" s_address_text p.f_address_text p.d_address_text
  b_address_text : Binds K p.d_address_text P_address_text []
  mg_read_address : mg "read_address" = some (.ref p.f_read_address)
  F_read_address : Fun K "read_address" "read_address" s_read_address p.f_read_address p.d_read_address
  b_read_address : Binds K p.d_read_address P_read_address []
  mg_corner_text : mg "corner_text" = some (.ref p.f_corner_text)
  F_corner_text : Fun K "corner_text" "corner_text" s_corner_text p.f_corner_text p.d_corner_text
  b_corner_text : Binds K p.d_corner_text P_corner_text []
  mg_corners_text : mg "corners_text" = some (.ref p.f_corners_text)
  F_corners_text : Fun K "corners_text" "corners_text" s_corners_text p.f_corners_text p.d_corners_text
  b_corners_text : Binds K p.d_corners_text P_corners_text []
  mg_area_text : mg "area_text" = some (.ref p.f_area_text)
  F_area_text : Fun K "area_text" "area_text" s_area_text p.f_area_text p.d_area_text
  b_area_text : Binds K p.d_area_text P_area_text []
  mg_read_area : mg "read_area" = some (.ref p.f_read_area)
  F_read_area : Fun K "read_area" "read_area" s_read_area p.f_read_area p.d_read_area
  b_read_area : Binds K p.d_read_area P_read_area []
  mg__read_corner : mg "_read_corner" = some (.ref p.f__read_corner)
  F__read_corner : Fun K "_read_corner" "_read_corner" s__read_corner p.f__read_corner p.d__read_corner
  b__read_corner : Binds K p.d__read_corner P__read_corner []
/-- a corner's text, of an area of a sort -/
def cornT (wh : Wh) (n m : Nat) (fr fc : Bool) : List Nat := match wh with
  | .no => colT m fc ++ rowT n fr
  | .cols => colT m fc
  | .rows => rowT n fr
theorem cornT_len {wh : Wh} {n m : Nat} {fr fc : Bool} (h : n ≤ 1000000) : (cornT wh n m fr fc).length ≤ 12 := by
  have h4 : (TL.numL n).length ≤ 7 := TL.numL_len (by decide) (by omega)
  have l6 := len36 fc
  have l7 := len36 fr
  have l3 := lets_len 3 m
  unfold cornT colT rowT
  cases wh <;> simp only [List.length_append] <;> omega
theorem rParts_app {l t : List Nat} (h : 33 ∉ t) : rParts (l ++ 33 :: t) = (l, [33], t) := by
  unfold rParts
  rw [bang_eq rfl h]
theorem rParts_no {t : List Nat} (h : 33 ∉ t) : rParts t = ([], [], t) := by
  unfold rParts
  rw [lastBang_no h]
def spCorT (C : Addr) : Sp := fun vs H Q _ => ∃ (a : Addr) (wh : Wh) (n m : Nat) (fr fc : Bool) (sh : Option (List Nat)), vs = [.ref a, whV wh] ∧ AdrAt C H a ((n : Int), fr) ((m : Int), fc) sh ∧ 1 ≤ n ∧ n ≤ 1000000 ∧ 1 ≤ m ∧ m ≤ 18278 ∧ shOk sh ∧
  ∀ H', Same H H' → Q (.str (S (cornT wh n m fr fc))) H'
section
variable {P : Program} {w : World} {K : PySem.W.Frag} {mg : Str → Option Value} {base : Heap} {pc : Ads} {pg : AdG} {pa : AdC} {D : Addr} {p : AdR} {px : AdX} {mv : List Value}
theorem cqW {i : Nat} {wh : Wh} {σ : L2.St} {H' : Hp} {z : Str} {u : Wh} (hi : σ[i]? = some (some (whV wh))) (hz : whV u = .str z) : EvT (tTest (tOp rEq (tVar i) (tC (.str z)))) σ H' (decide (wh = u)) := by
  have h1 : decide (whV wh = V.str z) = decide (wh = u) := by
    rw [← hz]
    cases wh <;> cases u <;> first | rfl | decide +kernel
  rw [← h1]
  exact et_test (ev_op (ev_var hi) ev_c (rv_eq (by cases wh <;> rfl)))
theorem ev_rp3 {te : TE} {σ : L2.St} {H : Hp} {l : List Nat} (h : Ev te σ H (.str (S l))) (hl : l.length ≤ 100000) : Ev (tOp (rIxT K) (tBM K "str" rRp te (tCons (tC (.str (Str.ofString "!"))) tNil)) (tC (.int 2))) σ H (.str (S (rParts l).2.2)) := fun H1 e Q q =>
  h H1 e _ fun H2 e2 => ⟨rfl, S l, S [33], rfl, rfl, rfl, by rw [len_S]; exact sz_of hl, fun t ht => rv_ixT (st_of (upd_same (H := H2) (a := t) (o := .tup [.str (Txt.rpartition (S l) (S [33])).1, .str (Txt.rpartition (S l) (S [33])).2.1, .str (Txt.rpartition (S l) (S [33])).2.2]))) (by rw [rpart_P]; rfl) _ (Ex.refl _) Q fun H3 e3 => q H3 ((e2.trans (Ex.new ht)).trans e3)⟩
theorem ev_strN {te : TE} {σ : L2.St} {H : Hp} {n : Nat} (h : Ev te σ H (.int n)) (hl : ((n : Int).natAbs).log2 < 1920) : Ev (tCB (fun xs H Q => ∃ i : Int, xs = [.int i] ∧ i.natAbs.log2 < 1920 ∧ Q (.str (Str.ofString (toString i))) H) (tCons te tNil)) σ H (.str (S (TL.numL n))) := fun H1 e Q q => by
  refine h H1 e _ fun H4 e4 => ⟨(n : Int), rfl, hl, ?_⟩
  rw [num_S]
  exact q H4 e4
theorem ok_corner_text (TC : TxtC K mg pc) (TG : TxtG K mg pg) (TA : TxtA6 K mg pc.S pa) (Z : TxtB K mg pa D) (TX : TxtX K mg px) : FnOk P w K mg base (L2.CX P w) 6 px.f_corner_text px.d_corner_text P_corner_text (spCorT pa.C) := by
  have G_letters_of : FnOk P w K mg base (L2.CX P w) 4 pc.f_letters_of pc.d_letters_of P_letters_of (spLettersOf K pc.CB) := ok_letters_of TC
  have G_address_text : FnOk P w K mg base (L2.CX P w) 5 px.f_address_text px.d_address_text P_address_text (spAdrText K pa.C pc.CB) := ok_address_text TC TG TA Z TX.F_address_text
  refine TX.F_corner_text.okX sc_corner_text (fun vs H Q E h => ?_) (fun cdv A outer s H vs Q E hr h => ?_)
  · obtain ⟨a, wh, n, m, fr, fc, sh, rfl, _⟩ := h
    rfl
  · obtain ⟨a, wh, n, m, fr, fc, sh, rfl, ⟨dx, ha⟩, n1, n2, m1, m2, so, k⟩ := h
    refine ⟨_, (pss_cons (ps_if (pt_cmpR op_eq (pv 1) pe_str (nomark _)) (pss_one (ps_ret (pe_op op_add_str (pe_ifExp (pt_val (pe_fld (pv 0) rfl)) pe_str pe_str) (pe_call G_letters_of (hr.mono (by decide)) (by rfl) TC.mg_letters_of TC.F_letters_of.kp TC.b_letters_of .nil (passes_call (takes_of rfl rfl rfl rfl) fun _ _ _ _ h => h) (pa_cons (pe_fld (pv 0) rfl) pa_nil))))) pss_nil)
      (pss_cons (ps_if (pt_cmpR op_eq (pv 1) pe_str (nomark _)) (pss_one (ps_ret (pe_op op_add_str (pe_ifExp (pt_val (pe_fld (pv 0) rfl)) pe_str pe_str) (pe_callTy (T := "str") call_str_int (by rfl) TC.n_str (by decide +kernel) (pa_cons (pe_fld (pv 0) rfl) pa_nil))))) pss_nil)
      (pss_one (ps_ret (pe_ix ix_tup (pe_bm PySem.F.plainAttrs_str PySem.F.slot_str_rpartition PySem.F.type_str_rpartition mt_rpartition (pe_call G_address_text (hr.mono (by decide)) (by rfl) TX.mg_address_text TX.F_address_text.kp TX.b_address_text .nil (passes_call (takes_of rfl rfl rfl rfl) fun _ _ _ _ h => h) (pa_cons (pv 0) pa_nil)) (pa_cons pe_str pa_nil)) pe_int (fun _ _ => rfl)))))), ?_⟩
    have fa : ∀ {σ : L2.St} {H' : Hp} {f : Str} {v : V}, Ex H H' → σ[0]? = some (some (.ref a)) → NoAttr K pa.C f → (flds n m fr fc sh).lookup f = some v → Ev (tFld K (tVar 0) f) σ H' v := fun e h0 n hl => ev_fld (ev_var h0) (e _ _ ha) TA.cl n hl
    have l6 := len36 fc
    have l7 := len36 fr
    have l3 := lets_len 3 m
    have h4 : (TL.numL n).length ≤ 7 := TL.numL_len (by decide) (by omega)
    have hlog : (((n : Nat) : Int).natAbs).log2 < 1920 := by
      show n.log2 < 1920
      exact (Nat.log2_lt (by omega)).2 (Nat.lt_of_le_of_lt n2 (by decide))
    cases wh with
    | cols =>
      refine q_when (b := true) (et_is (cqW (wh := .cols) (u := .cols) rfl rfl) rfl) (fun _ H1 e1 => ?_) fun z => nomatch z
      exact ev_addS (l := if fc = true then [36] else []) (m := letsF 3 m) (Evl.ev_if (b := fc) (et_B (fa e1 rfl TA.n_fixed_column rfl)) (fun hb => by rw [hb]; exact ev_c) (fun hb => by rw [hb]; exact ev_c)) (ev_lettersE (fa e1 rfl TA.n_column rfl) m1 m2) (by omega) H1 (Ex.refl H1) _ fun H2 e2 => k H2 (e1.trans e2)
    | rows =>
      refine q_when (b := false) (et_is (cqW (wh := .rows) (u := .cols) rfl rfl) rfl) (fun z => nomatch z) fun _ H1 e1 => ?_
      refine q_when (b := true) (et_is (cqW (wh := .rows) (u := .rows) rfl rfl) rfl) (fun _ H2 e2 => ?_) fun z => nomatch z
      have e12 := e1.trans e2
      exact ev_addS (l := if fr = true then [36] else []) (m := TL.numL n) (Evl.ev_if (b := fr) (et_B (fa e12 rfl TA.n_fixed_row rfl)) (fun hb => by rw [hb]; exact ev_c) (fun hb => by rw [hb]; exact ev_c)) (ev_strN (fa e12 rfl TA.n_row rfl) hlog) (by omega) H2 (Ex.refl H2) _ fun H3 e3 => k H3 (e12.trans e3)
    | no =>
      refine q_when (b := false) (et_is (cqW (wh := .no) (u := .cols) rfl rfl) rfl) (fun z => nomatch z) fun _ H1 e1 => ?_
      refine q_when (b := false) (et_is (cqW (wh := .no) (u := .rows) rfl rfl) rfl) (fun z => nomatch z) fun _ H2 e2 => ?_
      have e12 := e1.trans e2
      have no := cell_no33 (n := n) (fr := fr) (fc := fc) m1 m2 (Mx.refl (letsF 3 m))
      have ecT : cornT .no n m fr fc = dl fc ++ (letsF 3 m ++ (dl fr ++ TL.numL n)) := by
        unfold cornT colT rowT dl
        rw [List.append_assoc]
      have hz : (rParts (adrText n m fr fc sh)).2.2 = cornT .no n m fr fc := by
        rw [← adr_text, show colT m fc ++ rowT n fr = cornT .no n m fr fc from rfl, ecT]
        cases sh with
        | none => rw [show shT none = [] from rfl, List.nil_append, rParts_no no]
        | some l => rw [show shT (some l) = l ++ [33] from rfl, List.append_assoc, List.singleton_append, rParts_app no]
      have hlen : (adrText n m fr fc sh).length ≤ 100000 := by
        rw [← adr_text, List.length_append]
        have := cornT_len (wh := .no) (m := m) (fr := fr) (fc := fc) n2
        have h5 : (shT sh).length ≤ 1001 := by
          cases sh with
          | none => exact Nat.zero_le _
          | some l =>
            have := so.2
            show (l ++ [33]).length ≤ 1001
            rw [List.length_append]
            show l.length + 1 ≤ 1001
            omega
        have : (colT m fc ++ rowT n fr).length ≤ 12 := this
        omega
      have ea : Ev (tCall (spAdrText K pa.C pc.CB) [] E (tCons (tVar 0) tNil)) [some (.ref a), some (whV .no)] H2 (.str (S (adrText n m fr fc sh))) := fun H3 e Q q => ⟨_, rfl, .ref a, rfl, .inl ⟨a, dx, n, m, fr, fc, sh, rfl, (e12.trans e) _ _ ha, n1, n2, m1, m2, so, fun H' s => q H' s⟩⟩
      refine ev_rp3 ea hlen H2 (Ex.refl H2) _ fun H3 e3 => ?_
      rw [hz]
      exact k H3 (e12.trans e3)
end
end K18

set_option Elab.async false
set_option linter.all false
set_option maxRecDepth 100000
set_option maxHeartbeats 4000000
namespace K18
open PySem PySem.Spec PyProof.Rows L2 Pen EV2 Evl TX LamX
theorem cornT_chars {wh : Wh} {n m : Nat} {fr fc : Bool} (m1 : 1 ≤ m) (m2 : m ≤ 18278) : ∀ x ∈ cornT wh n m fr fc, x = 36 ∨ (48 ≤ x ∧ x ≤ 57) ∨ (65 ≤ x ∧ x ≤ 90) := by
  obtain ⟨l1, l2, l3, l4⟩ := lets_ok m1 m2
  have hd : ∀ (b : Bool) (x : Nat), x ∈ (if b = true then [36] else ([] : List Nat)) → x = 36 := fun b x h => by
    cases b
    · cases h
    · exact List.mem_singleton.mp h
  have hc : ∀ x ∈ colT m fc, x = 36 ∨ (48 ≤ x ∧ x ≤ 57) ∨ (65 ≤ x ∧ x ≤ 90) := fun x h => by
    rcases List.mem_append.mp h with h | h
    · exact .inl (hd _ _ h)
    · exact .inr (.inr (l3 x h))
  have hr : ∀ x ∈ rowT n fr, x = 36 ∨ (48 ≤ x ∧ x ≤ 57) ∨ (65 ≤ x ∧ x ≤ 90) := fun x h => by
    rcases List.mem_append.mp h with h | h
    · exact .inl (hd _ _ h)
    · exact .inr (.inl (TL.numL_digits n x h))
  intro x h
  cases wh with
  | no =>
    rcases List.mem_append.mp h with h | h
    · exact hc x h
    · exact hr x h
  | cols => exact hc x h
  | rows => exact hr x h
/-- a corner's text by its pairs -/
def cT (wh : Wh) (r c : Int × Bool) : List Nat := cornT wh r.1.toNat c.1.toNat r.2 c.2
def corsT (A : Ar) : List Nat := cT A.wh A.ro.1 A.co.1 ++ 58 :: cT A.wh A.ro.2 A.co.2
def isOne (A : Ar) : Bool := decide (A.wh = .no) && decide (cT A.wh A.ro.1 A.co.1 = cT A.wh A.ro.2 A.co.2)
def arT (A : Ar) : List Nat := shT A.sh ++ (if isOne A = true then cT A.wh A.ro.1 A.co.1 else corsT A)
theorem cT_no {wh : Wh} {r c : Int × Bool} (g : inG r c) : 58 ∉ cT wh r c := fun h => by
  have := cornT_chars (by have := g.2; omega) (by have := g.2; omega) 58 h
  omega
theorem cT_len {wh : Wh} {r c : Int × Bool} (g : inG r c) : (cT wh r c).length ≤ 12 := cornT_len (by have := g.1; omega)
def spCorsT (CA C : Addr) : Sp := fun vs H Q _ => ∃ (a : Addr) (A : Ar), vs = [.ref a] ∧ AreaAt CA C H a A ∧ A.On ∧ ∀ H', Same H H' → Q (.str (S (corsT A))) H'
def spAreaT (K : PySem.W.Frag) (CA C CB : Addr) : Sp := fun vs H Q E => ∃ (v : V) (ty : Value) (b : Bool), vs = [v] ∧ (∀ H', Ex H H' → TyX K H' v ty) ∧ PySem.W.kitOne K ty (.ref CA) = some b ∧
  (b = true → ∃ (a : Addr) (A : Ar), v = .ref a ∧ AreaAt CA C H a A ∧ A.On ∧ ∀ H', Same H H' → Q (.str (S (arT A))) H') ∧ (b = false → bad CB "value" H v E)
section
variable {P : Program} {w : World} {K : PySem.W.Frag} {mg : Str → Option Value} {base : Heap} {pc : Ads} {pg : AdG} {pa : AdC} {D : Addr} {p : AdR} {px : AdX} {mv : List Value}
theorem ev_corT {E : XK} {ta tw : TE} {σ : L2.St} {H : Hp} {a : Addr} {wh : Wh} {r c : Int × Bool} {sh : Option (List Nat)} (h1 : Ev ta σ H (.ref a)) (h2 : Ev tw σ H (whV wh)) (ha : AdrAt pa.C H a r c sh) (g : inG r c) (so : shOk sh) : Ev (tCall (spCorT pa.C) [] E (tCons ta (tCons tw tNil))) σ H (.str (S (cT wh r c))) := fun H1 e Q q =>
  h1 H1 e _ fun H2 e2 => h2 H2 (e.trans e2) _ fun H3 e3 => by
    obtain ⟨⟨r1, r2⟩, c1, c2⟩ := g
    have er : ((r.1.toNat : Nat) : Int) = r.1 := by omega
    have ec : ((c.1.toNat : Nat) : Int) = c.1 := by omega
    refine ⟨a, wh, r.1.toNat, c.1.toNat, r.2, c.2, sh, rfl, ?_, by omega, by omega, by omega, by omega, so, fun H' s => q H' (e2.trans (e3.trans s))⟩
    rw [er, ec]
    exact ha.ex (e.trans (e2.trans e3))
theorem ok_corners_text (TC : TxtC K mg pc) (TG : TxtG K mg pg) (TA : TxtA6 K mg pc.S pa) (Z : TxtB K mg pa D) (TR : TxtR K mg p) (TX : TxtX K mg px) : FnOk P w K mg base (L2.CX P w) 7 px.f_corners_text px.d_corners_text P_corners_text (spCorsT p.CA pa.C) := by
  have G_corner_text : FnOk P w K mg base (L2.CX P w) 6 px.f_corner_text px.d_corner_text P_corner_text (spCorT pa.C) := ok_corner_text TC TG TA Z TX
  refine TX.F_corners_text.okX sc_corners_text (fun vs H Q E h => ?_) (fun cdv A outer s H vs Q E hr h => ?_)
  · obtain ⟨a, A, rfl, _⟩ := h
    rfl
  · obtain ⟨a, A, rfl, ⟨dx, a1, a2, ha, h1, h2⟩, on, k⟩ := h
    refine ⟨_, (pss_one (ps_ret (pe_joined (PJ.cons (pe_fmt (pe_call G_corner_text (hr.mono (by decide)) (by rfl) TX.mg_corner_text TX.F_corner_text.kp TX.b_corner_text .nil (passes_call (takes_of rfl rfl rfl rfl) fun _ _ _ _ h => h) (pa_cons (pe_fld (pv 0) rfl) (pa_cons (pe_fld (pv 0) rfl) pa_nil)))) (PJ.cons pe_str (PJ.cons (pe_fmt (pe_call G_corner_text (hr.mono (by decide)) (by rfl) TX.mg_corner_text TX.F_corner_text.kp TX.b_corner_text .nil (passes_call (takes_of rfl rfl rfl rfl) fun _ _ _ _ h => h) (pa_cons (pe_fld (pv 0) rfl) (pa_cons (pe_fld (pv 0) rfl) pa_nil)))) PJ.nil)))))), ?_⟩
    have fl : ∀ {σ : L2.St} {H' : Hp} {f : Str} {v : V}, Ex H H' → σ[0]? = some (some (.ref a)) → NoAttr K p.CA f → (afl a1 a2 A).lookup f = some v → Ev (tFld K (tVar 0) f) σ H' v := fun e h0 n hl => ev_fldG (ev_var h0) (e _ _ ha) TR.cl n hl
    have z1 := cT_len (wh := A.wh) on.a
    have z2 := cT_len (wh := A.wh) on.b
    show tRet _ _ _ _
    refine js_cons (l := []) (ev_fmtS (ev_corT (fl (Ex.refl H) rfl TR.n_first rfl) (fl (Ex.refl H) rfl TR.n_whole rfl) h1 on.a on.so) (by omega)) (by show 0 + _ ≤ 100000; omega) fun H1 e1 => ?_
    refine js_cons (m := [58]) ev_c (by rw [List.nil_append]; show _ + 1 ≤ _; omega) fun H2 e2 => ?_
    have e12 := e1.trans e2
    refine js_cons (ev_fmtS (ev_corT (fl e12 rfl TR.n_last rfl) (fl e12 rfl TR.n_whole rfl) (h2.ex e12) on.b on.so) (by omega)) (by simp only [List.nil_append, List.length_append, List.length_singleton]; omega) fun H3 e3 => ?_
    have hz : [] ++ cT A.wh A.ro.1 A.co.1 ++ [58] ++ cT A.wh A.ro.2 A.co.2 = corsT A := by
      unfold corsT
      simp
    rw [hz]
    exact k H3 (e12.trans e3)
theorem ok_area_text (TC : TxtC K mg pc) (TG : TxtG K mg pg) (TA : TxtA6 K mg pc.S pa) (Z : TxtB K mg pa D) (TR : TxtR K mg p) (TX : TxtX K mg px) : FnOk P w K mg base (L2.CX P w) 8 px.f_area_text px.d_area_text P_area_text (spAreaT K p.CA pa.C pc.CB) := by
  have G_check_area : FnOk P w K mg base (L2.CX P w) 3 p.f_check_area p.d_check_area P_check_area (spChk K p.CA pc.CB) := ok_check_area TC TR
  have G_corners_text : FnOk P w K mg base (L2.CX P w) 7 px.f_corners_text px.d_corners_text P_corners_text (spCorsT p.CA pa.C) := ok_corners_text TC TG TA Z TR TX
  refine TX.F_area_text.okX sc_area_text (fun vs H Q E h => ?_) (fun cdv A outer s H vs Q E hr h => ?_)
  · obtain ⟨v, ty, b, rfl, _⟩ := h
    rfl
  · obtain ⟨v, ty, b, rfl, kn, hk, h1, h0⟩ := h
    refine ⟨_, (pss_cons (ps_expr (pe_call G_check_area (hr.mono (by decide)) (by rfl) TR.mg_check_area TR.F_check_area.kp TR.b_check_area .nil (passes_call (takes_of rfl rfl rfl rfl) fun _ _ _ _ h => h) (pa_cons (pv 0) pa_nil)))
      (pss_cons (ps_set (i := 1) sc_area_text.nd rfl (Or.inl rfl) (pe_call G_corners_text (hr.mono (by decide)) (by rfl) TX.mg_corners_text TX.F_corners_text.kp TX.b_corners_text .nil (passes_call (takes_of rfl rfl rfl rfl) fun _ _ _ _ h => h) (pa_cons (pv 0) pa_nil)))
      (pss_cons (ps_asg (pe_bm PySem.F.plainAttrs_str PySem.F.slot_str_partition PySem.F.type_str_partition mt_partition (pv 1) (pa_cons pe_str pa_nil)) (pg_tup (by rfl) (pgs_cons (pg_name (i := 2) sc_area_text.nd rfl (Or.inl rfl)) (pgs_cons (pg_name (i := 3) sc_area_text.nd rfl (Or.inl rfl)) (pgs_cons (pg_name (i := 4) sc_area_text.nd rfl (Or.inl rfl)) pgs_nil)))))
      (pss_cons (ps_if (PW.pt (pw_and (pt_cmpR op_isN1 (pe_fld (pv 0) rfl) pe_non (nomark _)) (pw_and1 (pt_cmpR op_eq (pv 2) (pv 4) (nomark _))))) (pss_one (ps_set (i := 1) sc_area_text.nd rfl (Or.inl rfl) (pv 2))) pss_nil)
      (pss_one (ps_ret (pe_ifExp (pt_cmpR op_isN1 (pe_fld (pv 0) rfl) pe_non (nomark _)) (pv 1) (pe_joined (PJ.cons (pe_fmt (pe_fld (pv 0) rfl)) (PJ.cons pe_str (PJ.cons (pe_fmt (pv 1)) PJ.nil))))))))))), ?_⟩
    cases b with
    | false => exact ⟨_, rfl, v, ty, false, rfl, kn, hk, (fun z => nomatch z), fun _ => h0 rfl⟩
    | true =>
      obtain ⟨a, A, rfl, hA, on, k⟩ := h1 rfl
      have okA : Ev (tCall (spChk K p.CA pc.CB) [] E (tCons (tVar 0) tNil)) [some (.ref a), none, none, none, none] H .non := fun H1 e Q q => ⟨_, rfl, .ref a, ty, true, rfl, fun H2 e2 => kn H2 (e.trans e2), hk, fun _ H' s => q H' s, fun z => nomatch z⟩
      refine q_drop okA fun H1 e1 => ?_
      refine q_asg (v := .str (S (corsT A))) (fun H2 e Q q => ⟨_, rfl, a, A, rfl, hA.ex (e1.trans e), on, fun H' s => q H' s⟩) fun H2 e2 => ?_
      have z1 := cT_len (wh := A.wh) on.a
      have z2 := cT_len (wh := A.wh) on.b
      have zc : (corsT A).length ≤ 25 := by
        unfold corsT
        rw [List.length_append, List.length_cons]
        omega
      have hp : cParts (corsT A) = (cT A.wh A.ro.1 A.co.1, [58], cT A.wh A.ro.2 A.co.2) := cParts_app (cT_no on.a)
      refine q_ptc (K := K) (ev_var rfl) (by omega) fun t H3 nt e3 ht => ?_
      rw [hp] at ht
      refine ⟨t, _, rfl, st_of ht, rfl, _, _, rfl, _, _, rfl, _, _, rfl, rfl, ?_⟩
      have e13 := (e1.trans e2).trans e3
      have F : ∀ {σ : L2.St} {H' : Hp}, Ex H H' → σ[0]? = some (some (.ref a)) → FldE K pa.C σ 0 H' A := fun e h => flde TA TR (hA.ex e) h
      have hS : ∀ x y : List Nat, decide (V.str (S x) = V.str (S y)) = decide (x = y) := fun x y => by
        by_cases z : x = y
        · rw [z, decide_eq_true rfl, decide_eq_true rfl]
        · rw [decide_eq_false z, decide_eq_false fun q => z (S_inj (V.str.inj q))]
      have hW : decide (whV A.wh = V.non) = decide (A.wh = .no) := by cases A.wh <;> first | rfl | decide +kernel
      have ec : EvT (tAnd (tTest (tOp rIsN (tFld K (tVar 0) "whole") (tC .non))) (tTest (tOp rEq (tVar 2) (tVar 4)))) [some (.ref a), some (.str (S (corsT A))), some (.str (S (cT A.wh A.ro.1 A.co.1))), some (.str (S [58])), some (.str (S (cT A.wh A.ro.2 A.co.2)))] H3 (isOne A) := by
        refine et_and (et_test (ev_op (F e13 rfl).wh ev_c fun H4 _ Q q => ⟨rfl, by rw [hW]; exact q H4 (Ex.refl H4)⟩)) fun _ => et_test ?_
        rw [← hS]
        exact ev_op (ev_var rfl) (ev_var rfl) (rv_eq rfl)
      refine q_ifQ (i := 1) (R := fun v _ => v = .str (S (if isOne A = true then cT A.wh A.ro.1 A.co.1 else corsT A))) (v0 := .str (S (corsT A))) ec (fun hb => evq_of (by rw [if_pos hb]; exact ev_var rfl)) (fun hb => ⟨rfl, by rw [hb]; rfl⟩) mon_eq fun v H4 e4 hv => ?_
      subst hv
      have e14 := e13.trans e4
      have hb25 : (if isOne A = true then cT A.wh A.ro.1 A.co.1 else corsT A).length ≤ 25 := by
        split <;> omega
      show tRet _ _ _ _
      have hN : decide (shV A.sh = V.non) = decide (A.sh = none) := by cases A.sh <;> rfl
      refine (Evl.ev_if (b := decide (A.sh = none)) (v := .str (S (arT A))) (et_test (ev_op (F e14 rfl).sh ev_c fun H5 _ Q q => ⟨rfl, by rw [hN]; exact q H5 (Ex.refl H5)⟩)) (fun hb => ?_) (fun hb => ?_)) H4 (Ex.refl H4) _ fun H5 e5 => k H5 (e14.trans e5)
      · have hn := of_decide_eq_true hb
        unfold arT
        rw [hn]
        exact ev_var rfl
      · cases q : A.sh with
        | none => rw [q] at hb; cases hb
        | some l =>
          have sl : Ev (tFld K (tVar 0) "sheet") [some (.ref a), some (.str (S (if isOne A = true then cT A.wh A.ro.1 A.co.1 else corsT A))), some (.str (S (cT A.wh A.ro.1 A.co.1))), some (.str (S [58])), some (.str (S (cT A.wh A.ro.2 A.co.2)))] H4 (.str (S l)) := by
            have z := (F (σ := [some (.ref a), some (.str (S (if isOne A = true then cT A.wh A.ro.1 A.co.1 else corsT A))), some (.str (S (cT A.wh A.ro.1 A.co.1))), some (.str (S [58])), some (.str (S (cT A.wh A.ro.2 A.co.2)))]) e14 rfl).sh
            rw [q] at z
            exact z
          have so := on.so
          rw [q] at so
          have hl := so.2
          have ez : arT A = ([] ++ l ++ [33]) ++ (if isOne A = true then cT A.wh A.ro.1 A.co.1 else corsT A) := by
            unfold arT
            rw [q]
            rfl
          intro H5 e5 Q q
          refine js_cons (l := []) (ev_fmtS (sl.mono e5) (by omega)) (by show 0 + _ ≤ 100000; omega) fun H6 e6 => ?_
          refine js_cons (m := [33]) ev_c (by rw [List.nil_append]; show _ + 1 ≤ _; omega) fun H7 e7 => ?_
          refine js_cons (ev_fmtS (ev_var rfl) (by omega)) (by simp only [List.nil_append, List.length_append, List.length_singleton]; omega) fun H8 e8 => ?_
          rw [← ez]
          exact q H8 (e6.trans (e7.trans e8))
end
end K18

set_option Elab.async false
set_option linter.all false
set_option maxRecDepth 100000
set_option maxHeartbeats 4000000
namespace K18
open PySem PySem.Spec PyProof.Rows L2 Pen EV2 Evl TX LamX
theorem kbC_of {K : PySem.W.Frag} {f : Addr} {fd : FuncData} (F : FunD K "__init__" "Address.__init__" (defArgs s_Address_init) (defBody s_Address_init) (defScope s_Address_init) [] kwA f fd) :
    ∃ mv : List Value, KBn K fd P_Address_init 3 ["fixed_column", "sheet"] (fun us ws => us ++ mv ++ ws) (fun vs zs => vs ++ [.bl false] ++ zs) :=
  F.kbinds0 3 ["fixed_column", "sheet"] [("fixed_row", .bl false)] (fun us mv ws => us ++ mv ++ ws) (by simp) (fun q h => by simp [kwA] at h ⊢; simp [h]) (fun r1 r2 r3 => (r1.append r2).append r3) (fun D doc pm an cdv ct us mv ws l1 l2 l3 => match us, mv, ws, l1, l2, l3 with
    | [_, _, _], [_], [_, _], _, _, _ => ⟨_, _, _, _, _, _, rfl, rfl, rfl⟩)
theorem kbR_of {K : PySem.W.Frag} {f : Addr} {fd : FuncData} (F : FunD K "__init__" "Address.__init__" (defArgs s_Address_init) (defBody s_Address_init) (defScope s_Address_init) [] kwA f fd) :
    ∃ mv : List Value, KBn K fd P_Address_init 3 ["fixed_row", "sheet"] (fun us ws => us ++ (ws.take 1 ++ (mv ++ ws.drop 1))) (fun vs zs => vs ++ (zs.take 1 ++ ([.bl false] ++ zs.drop 1))) :=
  F.kbinds0 3 ["fixed_row", "sheet"] [("fixed_column", .bl false)] (fun us mv ws => us ++ (ws.take 1 ++ (mv ++ ws.drop 1))) (by simp) (fun q h => by simp [kwA] at h ⊢; simp [h]) (fun r1 r2 r3 => r1.append (match r3 with
    | .nil => Vals.append .nil (Vals.append r2 .nil)
    | .cons r t => Vals.append (.cons r .nil) (Vals.append r2 t))) (fun D doc pm an cdv ct us mv ws l1 l2 l3 => match us, mv, ws, l1, l2, l3 with
    | [_, _, _], [_], [_, _], _, _, _ => ⟨_, _, _, _, _, _, rfl, rfl, rfl⟩)
abbrev kwR : List (Str × V) := [("whole", .non)]
theorem kbA0_of {K : PySem.W.Frag} {f : Addr} {fd : FuncData} (F : FunD K "__init__" "Area.__init__" (defArgs s_Area_init) (defBody s_Area_init) (defScope s_Area_init) [] kwR f fd) :
    ∃ mv : List Value, KBn K fd P_Area_init 3 [] (fun us ws => us ++ mv) (fun vs zs => vs ++ [.non]) :=
  F.kbinds0 3 [] kwR (fun us mv ws => us ++ mv) (by simp) (fun q h => h) (fun r1 r2 r3 => r1.append r2) (fun D doc pm an cdv ct us mv ws l1 l2 l3 => match us, mv, ws, l1, l2, l3 with
    | [_, _, _], [_], [], _, _, _ => ⟨_, _, _, _, _, _, rfl, rfl, rfl⟩)
/-- what else the classes' defaults say -/
structure TxtD (K : PySem.W.Frag) (pa : AdC) (p : AdR) (mc mr ma : List Value) : Prop where
  kb_fixed_column : KBn K pa.d_init P_Address_init 3 ["fixed_column", "sheet"] (fun us ws => us ++ mc ++ ws) (fun vs zs => vs ++ [.bl false] ++ zs)
  kb_fixed_row : KBn K pa.d_init P_Address_init 3 ["fixed_row", "sheet"] (fun us ws => us ++ (ws.take 1 ++ (mr ++ ws.drop 1))) (fun vs zs => vs ++ (zs.take 1 ++ ([.bl false] ++ zs.drop 1)))
  kb0A : KBn K p.e_init P_Area_init 3 [] (fun us ws => us ++ ma) (fun vs zs => vs ++ [.non])
/-- a corner's row and column with their marks, of a text in an area of a sort -/
def cornR : Wh → List Nat → Option ((Int × Bool) × (Int × Bool))
  | .no, l => if colText (cellParts l).1 = true ∧ rowText (cellParts l).2.2.1 = true then some ((numVal (cellParts l).2.2.1, (cellParts l).2.2.2), (val ((cellParts l).1.map up), (cellParts l).2.1)) else none
  | .cols, l => if colText (strip36 l) = true then some ((1, false), (val ((strip36 l).map up), decide (l.head? = some 36))) else none
  | .rows, l => if rowText (strip36 l) = true then some ((numVal (strip36 l), decide (l.head? = some 36)), (1, false)) else none
def CorR (C : Addr) (wh : Wh) (l : List Nat) (sh : Option (List Nat)) : V → Hp → Prop := fun v H' => (cornR wh l = none ∧ v = .non) ∨ ∃ r c, cornR wh l = some (r, c) ∧ inG r c ∧ AdrR C r c sh v H'
theorem mon_cor {C : Addr} {wh : Wh} {l : List Nat} {sh : Option (List Nat)} : MonR (CorR C wh l sh) := fun v H H' e h => by
  rcases h with h | ⟨r, c, h1, h2, h3⟩
  · exact .inl h
  · exact .inr ⟨r, c, h1, h2, mon_adr _ _ _ e h3⟩
def txtS : Option (List Nat) → List Nat → List Nat
  | none, l => l
  | some a, l => a ++ 33 :: l
def spRdCor (C : Addr) : Sp := fun vs H Q _ => ∃ (l : List Nat) (wh : Wh) (sh : Option (List Nat)), vs = [.str (S l), whV wh, shV sh] ∧ (∀ x ∈ l, x < 128) ∧ l.length ≤ 980 ∧ 33 ∉ l ∧ shOk sh ∧ shGood sh = true ∧ ∀ v H', Same H H' → CorR C wh l sh v H' → Q v H'
section
variable {P : Program} {w : World} {K : PySem.W.Frag} {mg : Str → Option Value} {base : Heap} {pc : Ads} {pg : AdG} {pa : AdC} {D : Addr} {p : AdR} {px : AdX} {mc mr ma : List Value}
theorem evq_mk {CB : Addr} {E : XK} {ta tk : TA} {σ : L2.St} {H : Hp} {m : Nat} {gV : List V → List V → List V} {zs : List V} {r c : Int} {fr fc : Bool} {sh : Option (List Nat)} (ha : EvA ta σ H [.int r, .int c]) (hk : EvA tk σ H zs) (lz : zs.length = m)
    (hv : ∀ x, gV [.ref x, .int r, .int c] zs = [.ref x, .int r, .int c, .bl fr, .bl fc, shV sh]) (so : shOk sh) (sg2 : shGood sh = true) (hg : gridOk r c = true) : EvQ (tMakeK pa.C 2 m (spInit K pa CB) gV E ta tk) σ H (AdrR pa.C (r, fr) (c, fc) sh) := fun H1 e Q q =>
  ha H1 e _ fun H2 e2 => hk H2 (e.trans e2) _ fun H3 e3 => ⟨rfl, lz, fun x dx nx ndx ne => by
    rw [hv]
    exact init_good so sg2 hg (e2.trans e3) (fun x dx H4 _ e4 h4 => q _ H4 e4 ⟨x, rfl, dx, h4⟩) x dx nx ndx ne⟩
theorem ok__read_corner (TC : TxtC K mg pc) (TG : TxtG K mg pg) (TA : TxtA6 K mg pc.S pa) (Z : TxtB K mg pa D) (TX : TxtX K mg px) (MX : TxtD K pa p mc mr ma) : FnOk P w K mg base (L2.CX P w) 8 px.f__read_corner px.d__read_corner P__read_corner (spRdCor pa.C) := by
  have G_is_column_text : FnOk P w K mg base CX0 2 pc.f_is_column_text pc.d_is_column_text P_is_column_text (spAlpha colText) := ok_is_column_text TC
  have G_column_of : FnOk P w K mg base (L2.CX P w) 4 pc.f_column_of pc.d_column_of P_column_of (spColumnOf K pc.CB pc.CN) := ok_column_of TC
  have G_is_row_text : FnOk P w K mg base CX0 1 pg.f_is_row_text pg.d_is_row_text P_is_row_text (spAlpha rowText) := ok_is_row_text TC TG
  have G_split_cell : FnOk P w K mg base CX0 2 pg.f_split_cell pg.d_split_cell P_split_cell spSplit := oksplit_cell TC TG
  have G_read_address : FnOk P w K mg base (L2.CX P w) 6 px.f_read_address px.d_read_address P_read_address (spReadA K pa.C pc.CB pc.CN) := ok_read_address TC TG TA Z TX.F_read_address
  refine TX.F__read_corner.okX sc__read_corner (fun vs H Q E h => ?_) (fun cdv A outer s H vs Q E hr h => ?_)
  · obtain ⟨l, wh, sh, rfl, _⟩ := h
    rfl
  · obtain ⟨l, wh, sh, rfl, la, ll, l33, so, sg2, k⟩ := h
    refine ⟨_, (pss_cons (ps_set (i := 3) sc__read_corner.nd rfl (Or.inl rfl) (pe_bm PySem.F.plainAttrs_str PySem.F.slot_str_startswith PySem.F.type_str_startswith mt_startswith (pv 0) (pa_cons pe_str pa_nil)))
      (pss_cons (ps_set (i := 4) sc__read_corner.nd rfl (Or.inl rfl) (pe_bm PySem.F.plainAttrs_str PySem.F.slot_str_removeprefix PySem.F.type_str_removeprefix mt_removeprefix (pv 0) (pa_cons pe_str pa_nil)))
      (pss_cons (ps_if (pt_cmpR op_eq (pv 1) pe_str (nomark _)) (pss_one (ps_ret (pe_ifExp (pt_val (pe_call G_is_column_text (hr.mono (by decide)) (by rfl) TC.mg_is_column_text TC.F_is_column_text.kp TC.b_is_column_text .nil pass0 (pa_cons (pv 4) pa_nil))) (pe_makeK (n := 2) Z.mkA (ok_Address_init TC TG TA) (hr.mono (by decide)) (by rfl) TA.mg_Address MX.kb_fixed_column (passes_call (takes_of rfl rfl rfl rfl) fun _ _ _ _ h => h) (pa_cons pe_int (pa_cons (pe_call G_column_of (hr.mono (by decide)) (by rfl) TC.mg_column_of TC.F_column_of.kp TC.b_column_of .nil (passes_call (takes_of rfl rfl rfl rfl) fun _ _ _ _ h => h) (pa_cons (pv 4) pa_nil)) pa_nil)) (pk_cons (pv 3) (pk_cons (pv 2) pk_nil))) pe_non))) pss_nil)
      (pss_cons (ps_if (pt_cmpR op_eq (pv 1) pe_str (nomark _)) (pss_one (ps_ret (pe_ifExp (pt_val (pe_call G_is_row_text (hr.mono (by decide)) (by rfl) TG.mg_is_row_text TG.F_is_row_text.kp TG.b_is_row_text .nil pass0 (pa_cons (pv 4) pa_nil))) (pe_makeK (n := 2) Z.mkA (ok_Address_init TC TG TA) (hr.mono (by decide)) (by rfl) TA.mg_Address MX.kb_fixed_row (passes_call (takes_of rfl rfl rfl rfl) fun _ _ _ _ h => h) (pa_cons (pe_callTy (T := "int") call_int_str (by rfl) TC.n_int (by decide +kernel) (pa_cons (pv 4) pa_nil)) (pa_cons pe_int pa_nil)) (pk_cons (pv 3) (pk_cons (pv 2) pk_nil))) pe_non))) pss_nil)
      (pss_cons (ps_asg (pe_call G_split_cell (hr.mono (by decide)) (by rfl) TG.mg_split_cell TG.F_split_cell.kp TG.b_split_cell .nil pass0 (pa_cons (pv 0) pa_nil)) (pg_tup (by rfl) (pgs_cons (pg_name (i := 5) sc__read_corner.nd rfl (Or.inl rfl)) (pgs_cons (pg_name (i := 6) sc__read_corner.nd rfl (Or.inl rfl)) (pgs_cons (pg_name (i := 7) sc__read_corner.nd rfl (Or.inl rfl)) (pgs_cons (pg_name (i := 6) sc__read_corner.nd rfl (Or.inl rfl)) pgs_nil))))))
      (pss_cons (ps_if (PW.pt (pw_or (pt_not (pt_val (pe_call G_is_column_text (hr.mono (by decide)) (by rfl) TC.mg_is_column_text TC.F_is_column_text.kp TC.b_is_column_text .nil pass0 (pa_cons (pv 5) pa_nil)))) (pw_or1 (pt_not (pt_val (pe_call G_is_row_text (hr.mono (by decide)) (by rfl) TG.mg_is_row_text TG.F_is_row_text.kp TG.b_is_row_text .nil pass0 (pa_cons (pv 7) pa_nil))))))) (pss_one (ps_ret pe_non)) pss_nil)
      (pss_one (ps_ret (pe_call G_read_address (hr.mono (by decide)) (by rfl) TX.mg_read_address TX.F_read_address.kp TX.b_read_address .nil (passes_call (takes_of rfl rfl rfl rfl) fun _ _ _ _ h => h) (pa_cons (pe_ifExp (pt_cmpR op_isN1 (pv 2) pe_non (nomark _)) (pv 0) (pe_joined (PJ.cons (pe_fmt (pv 2)) (PJ.cons pe_str (PJ.cons (pe_fmt (pv 0)) PJ.nil))))) pa_nil)))))))))), ?_⟩
    refine q_asg (ev_starts (K := K) (l := l) (ev_var rfl)) fun H1 e1 => ?_
    refine q_asg (v := .str (S (strip36 l))) (ev_strip (K := K) (l := l) (ev_var rfl) (by omega)) fun H2 e2 => ?_
    have e12 := e1.trans e2
    have sa : ∀ x ∈ strip36 l, x < 128 := fun x h => la x ((strip36_sub l).subset h)
    have sl : (strip36 l).length ≤ 1000 := by
      have := (strip36_sub l).length_le
      omega
    cases wh with
    | cols =>
      refine q_when (b := true) (et_is (cqW (wh := .cols) (u := .cols) rfl rfl) rfl) (fun _ H3 e3 => ?_) fun z => nomatch z
      have e13 := e12.trans e3
      have eX : Ev (tCall (spAlpha colText) [] E0 (tCons (tVar 4) tNil)) [some (.str (S l)), some (whV .cols), some (shV sh), some (.bl (decide (l.head? = some 36))), some (.str (S (strip36 l))), none, none, none] H3 (.bl (colText (strip36 l))) := fun H5 e Q q => ⟨_, rfl, _, rfl, sa, sl, fun H' s => q H' s⟩
      refine q_retQ (R := CorR pa.C .cols l sh) (evq_if (b := colText (strip36 l)) (et_B eX) (fun hb => ?_) (fun hb => ?_)) fun v H4 e4 h => k v H4 (e13.trans e4) h
      · obtain ⟨c1, c2⟩ := colVal hb
        have eC : ∀ {Ha : Hp}, Ev (tCall (spColumnOf K pc.CB pc.CN) [] E (tCons (tVar 4) tNil)) [some (.str (S l)), some (whV .cols), some (shV sh), some (.bl (decide (l.head? = some 36))), some (.str (S (strip36 l))), none, none, none] Ha (.int (val ((strip36 l).map up))) := fun Hb e Q q => ⟨_, rfl, .str (S (strip36 l)), rfl, .inl ⟨_, rfl, sa, sl, fun _ H' s => q H' s, fun z => absurd (hb.symm.trans z) (by decide)⟩⟩
        refine (evq_mk (fr := false) (fc := decide (l.head? = some 36)) (sh := sh) (zs := [.bl (decide (l.head? = some 36)), shV sh]) (ea_cons ev_c (ea_cons eC ea_nil)) (ea_cons (ev_var rfl) (ea_cons (ev_var rfl) ea_nil)) rfl (fun x => rfl) so sg2 (inG.ok (r := (1, false)) (c := (val ((strip36 l).map up), false)) ⟨by decide, c1, c2⟩)).to fun v H' _ hv => .inr ⟨_, _, ?_, ⟨by decide, c1, c2⟩, hv⟩
        exact if_pos hb
      · refine (evq_of ev_c).to fun v H' _ hv => .inl ⟨?_, hv⟩
        exact if_neg (by rw [hb]; decide)
    | rows =>
      refine q_when (b := false) (et_is (cqW (wh := .rows) (u := .cols) rfl rfl) rfl) (fun z => nomatch z) fun _ H3 e3 => ?_
      refine q_when (b := true) (et_is (cqW (wh := .rows) (u := .rows) rfl rfl) rfl) (fun _ H4 e4 => ?_) fun z => nomatch z
      have e14 := (e12.trans e3).trans e4
      have eX : Ev (tCall (spAlpha rowText) [] E0 (tCons (tVar 4) tNil)) [some (.str (S l)), some (whV .rows), some (shV sh), some (.bl (decide (l.head? = some 36))), some (.str (S (strip36 l))), none, none, none] H4 (.bl (rowText (strip36 l))) := fun H5 e Q q => ⟨_, rfl, _, rfl, sa, sl, fun H' s => q H' s⟩
      refine q_retQ (R := CorR pa.C .rows l sh) (evq_if (b := rowText (strip36 l)) (et_B eX) (fun hb => ?_) (fun hb => ?_)) fun v H5 e5 h => k v H5 (e14.trans e5) h
      · obtain ⟨r1, r2, r3, r4⟩ := rowVal hb
        have eI : ∀ {Ha : Hp}, Ev (tCB (fun xs H Q => ∃ a n, xs = [V.str a] ∧ PySem.intText? a = some n ∧ a.length ≤ 640 ∧ Q (.int n) H) (tCons (tVar 4) tNil)) [some (.str (S l)), some (whV .rows), some (shV sh), some (.bl (decide (l.head? = some 36))), some (.str (S (strip36 l))), none, none, none] Ha (.int (numVal (strip36 l))) := fun Hb e Q q => ⟨_, rfl, _, _, rfl, r1, by rw [len_S]; omega, q Hb (Ex.refl Hb)⟩
        refine (evq_mk (fr := decide (l.head? = some 36)) (fc := false) (sh := sh) (zs := [.bl (decide (l.head? = some 36)), shV sh]) (ea_cons eI (ea_cons ev_c ea_nil)) (ea_cons (ev_var rfl) (ea_cons (ev_var rfl) ea_nil)) rfl (fun x => rfl) so sg2 (inG.ok (r := (numVal (strip36 l), false)) (c := (1, false)) ⟨⟨r3, r4⟩, by decide⟩)).to fun v H' _ hv => .inr ⟨_, _, ?_, ⟨⟨r3, r4⟩, by decide⟩, hv⟩
        exact if_pos hb
      · refine (evq_of ev_c).to fun v H' _ hv => .inl ⟨?_, hv⟩
        exact if_neg (by rw [hb]; decide)
    | no =>
      refine q_when (b := false) (et_is (cqW (wh := .no) (u := .cols) rfl rfl) rfl) (fun z => nomatch z) fun _ H3 e3 => ?_
      refine q_when (b := false) (et_is (cqW (wh := .no) (u := .rows) rfl rfl) rfl) (fun z => nomatch z) fun _ H4 e4 => ?_
      have e14 := (e12.trans e3).trans e4
      refine ⟨_, rfl, l, rfl, la, by omega, fun u H5 nu sm hu => ?_⟩
      have e15 : Ex H H5 := e14.trans sm
      refine ⟨u, _, rfl, st_of hu, rfl, _, _, rfl, _, _, rfl, _, _, rfl, _, _, rfl, rfl, ?_⟩
      obtain ⟨pa1, pa2, pl1, pl2⟩ := parts_asc la
      have eX : Ev (tCall (spAlpha colText) [] E0 (tCons (tVar 5) tNil)) [some (.str (S l)), some (whV .no), some (shV sh), some (.bl (decide (l.head? = some 36))), some (.str (S (strip36 l))), some (.str (S (cellParts l).1)), some (.bl (cellParts l).2.2.2), some (.str (S (cellParts l).2.2.1))] H5 (.bl (colText (cellParts l).1)) := fun H6 e Q q => ⟨_, rfl, _, rfl, pa1, by omega, fun H' s => q H' s⟩
      have eY : Ev (tCall (spAlpha rowText) [] E0 (tCons (tVar 7) tNil)) [some (.str (S l)), some (whV .no), some (shV sh), some (.bl (decide (l.head? = some 36))), some (.str (S (strip36 l))), some (.str (S (cellParts l).1)), some (.bl (cellParts l).2.2.2), some (.str (S (cellParts l).2.2.1))] H5 (.bl (rowText (cellParts l).2.2.1)) := fun H6 e Q q => ⟨_, rfl, _, rfl, pa2, by omega, fun H' s => q H' s⟩
      refine q_when (et_or (et_not (et_B eX)) fun _ => et_not (et_B eY)) (fun hb H6 e6 => ?_) (fun hb H6 e6 => ?_)
      · refine q_retQ (R := fun v _ => v = .non) (evq_of ev_c) fun v H7 e7 h => k v H7 ((e15.trans e6).trans e7) (.inl ⟨?_, h⟩)
        refine if_neg fun z => ?_
        rw [z.1, z.2] at hb
        cases hb
      · have hx : colText (cellParts l).1 = true ∧ rowText (cellParts l).2.2.1 = true := by simpa using hb
        have e16 := e15.trans e6
        have hpar : ∀ s, parseC l s = some (numVal (cellParts l).2.2.1, val ((cellParts l).1.map up), (cellParts l).2.2.2, (cellParts l).2.1, s) := fun s => if_pos hx
        obtain ⟨t, ht1, ht2, ht3, ht4⟩ : ∃ t : List Nat, parseA t = parseC l sh ∧ (∀ x ∈ t, x < 128) ∧ t.length ≤ 1000 ∧ t = txtS sh l := by
          cases sh with
          | none => exact ⟨l, by unfold parseA; rw [lastBang_no l33], la, by omega, rfl⟩
          | some a =>
            have ga : sheetOk a = true := sg2
            have al : a.length ≤ 12 := by
              unfold sheetOk at ga
              simp only [Bool.and_eq_true, decide_eq_true_eq] at ga
              exact ga.1.1.2
            refine ⟨a ++ 33 :: l, by unfold parseA; rw [bang_eq rfl l33]; exact if_pos ga, fun x hx => ?_, by rw [List.length_append, List.length_cons]; omega, rfl⟩
            rcases List.mem_append.mp hx with hx | hx
            · exact so.1 x hx
            · rcases List.mem_cons.mp hx with hx | hx
              · omega
              · exact la x hx
        have hN : decide (shV sh = V.non) = decide (sh = none) := by cases sh <;> rfl
        have ea : Ev (tIf (tTest (tOp rIsN (tVar 2) (tC V.non))) (tVar 0) (fun σ H Q => tJs [tFmt (tVar 2), tC (V.str (Str.ofString "!")), tFmt (tVar 0)] Str.empty σ H fun out H1 => Q (V.str out) H1)) [some (.str (S l)), some (whV .no), some (shV sh), some (.bl (decide (l.head? = some 36))), some (.str (S (strip36 l))), some (.str (S (cellParts l).1)), some (.bl (cellParts l).2.2.2), some (.str (S (cellParts l).2.2.1))] H6 (.str (S t)) := by
          refine Evl.ev_if (b := decide (sh = none)) (et_test (ev_op (ev_var rfl) ev_c fun H7 _ Q q => ⟨rfl, by rw [hN]; exact q H7 (Ex.refl H7)⟩)) (fun hz => ?_) (fun hz => ?_)
          · have hs := of_decide_eq_true hz
            rw [hs] at ht4
            rw [ht4]
            exact ev_var rfl
          · cases q : sh with
            | none => rw [q] at hz; cases hz
            | some a =>
              rw [q] at ht4
              subst q
              have ga : sheetOk a = true := sg2
              have al : a.length ≤ 1000 := so.2
              intro H7 e7 Q q
              refine js_cons (l := []) (ev_fmtS (ev_var rfl) (by omega)) (by show 0 + _ ≤ 100000; omega) fun H8 e8 => ?_
              refine js_cons (m := [33]) ev_c (by rw [List.nil_append]; show _ + 1 ≤ _; omega) fun H9 e9 => ?_
              refine js_cons (ev_fmtS (ev_var rfl) (by omega)) (by simp only [List.nil_append, List.length_append, List.length_singleton]; omega) fun Ha ea => ?_
              have ez : [] ++ a ++ [33] ++ l = t := by rw [ht4]; simp [txtS]
              rw [ez]
              exact q Ha (e8.trans (e9.trans ea))
        refine ea H6 (Ex.refl H6) _ fun H7 e7 => ?_
        refine ⟨.str (S t), rfl, .inl ⟨t, rfl, ht2, ht3, fun r c fr fc s hp x dx H' nx sm hx2 => ?_, fun hp => ?_⟩⟩
        · rw [ht1, hpar] at hp
          cases hp
          obtain ⟨r1, r2, r3, r4⟩ := rowVal hx.2
          obtain ⟨c1, c2⟩ := colVal hx.1
          exact k (.ref x) H' ((e16.trans e7).trans sm) (.inr ⟨_, _, if_pos hx, ⟨⟨r3, r4⟩, c1, c2⟩, x, rfl, dx, hx2⟩)
        · rw [ht1, hpar] at hp
          cases hp
end
end K18

set_option Elab.async false
set_option linter.all false
set_option maxRecDepth 100000
set_option maxHeartbeats 4000000
namespace K18
open PySem PySem.Spec PyProof.Rows L2 Pen EV2 Evl TX LamX
def tryW (wh : Wh) (x y : List Nat) (sh : Option (List Nat)) : Option Ar := match cornR wh x, cornR wh y with
  | some (r1, c1), some (r2, c2) => some (Ar.norm ⟨(r1, r2), (c1, c2), wh, sh⟩)
  | _, _ => none
def srt : Nat → Wh
  | 0 => .no
  | 1 => .cols
  | _ => .rows
def parseB (b : List Nat) (sh : Option (List Nat)) : Option Ar := if 0 < (cParts b).2.1.length then
    (match tryW .no (cParts b).1 (cParts b).2.2 sh with
    | some A => some A
    | none => match tryW .cols (cParts b).1 (cParts b).2.2 sh with
      | some A => some A
      | none => tryW .rows (cParts b).1 (cParts b).2.2 sh)
  else tryW .no b b sh
def parseR (l : List Nat) : Option Ar := if 0 < (rParts l).2.1.length then (if sheetOk (rParts l).1 = true then parseB (rParts l).2.2 (some (rParts l).1) else none) else parseB (rParts l).2.2 none
def spReadArea (K : PySem.W.Frag) (CA C CB CN : Addr) : Sp := fun vs H Q E => ∃ v : V, vs = [v] ∧
  ((∃ l : List Nat, v = .str (S l) ∧ (∀ c ∈ l, c < 128) ∧ l.length ≤ 980 ∧ (∀ A, parseR l = some A → ∀ a H', Same H H' → AreaAt CA C H' a A → Q (.ref a) H') ∧ (parseR l = none → bad CN "name" H v E)) ∨
  (∃ n : String, Knd K H v n ∧ kitB n "str" = some false ∧ bad CB "value" H v E))
theorem tryW_some {wh : Wh} {x y : List Nat} {sh : Option (List Nat)} {r1 c1 r2 c2 : Int × Bool} (h1 : cornR wh x = some (r1, c1)) (h2 : cornR wh y = some (r2, c2)) : tryW wh x y sh = some (Ar.norm ⟨(r1, r2), (c1, c2), wh, sh⟩) := by
  unfold tryW
  rw [h1, h2]
theorem tryW_no1 {wh : Wh} {x y : List Nat} {sh : Option (List Nat)} (h1 : cornR wh x = none) : tryW wh x y sh = none := by
  unfold tryW
  rw [h1]
theorem tryW_no2 {wh : Wh} {x y : List Nat} {sh : Option (List Nat)} (h2 : cornR wh y = none) : tryW wh x y sh = none := by
  unfold tryW
  rw [h2]
  cases cornR wh x with
  | none => rfl
  | some p => rfl
section
variable {P : Program} {w : World} {K : PySem.W.Frag} {mg : Str → Option Value} {base : Heap} {pc : Ads} {pg : AdG} {pa : AdC} {D : Addr} {p : AdR} {px : AdX} {mv mc mr ma : List Value}
theorem evq_rc {E : XK} {ta tw ts : TE} {σ : L2.St} {H : Hp} {l : List Nat} {wh : Wh} {sh : Option (List Nat)} (h1 : Ev ta σ H (.str (S l))) (h2 : Ev tw σ H (whV wh)) (h3 : Ev ts σ H (shV sh)) (la : ∀ x ∈ l, x < 128) (ll : l.length ≤ 980) (l33 : 33 ∉ l) (so : shOk sh) (sg2 : shGood sh = true) :
    EvQ (tCall (spRdCor pa.C) [] E (tCons ta (tCons tw (tCons ts tNil)))) σ H (CorR pa.C wh l sh) := evq_call (eaq_of (ea_cons h1 (ea_cons h2 (ea_cons h3 ea_nil)))) fun vs H' e hv Q q => by
  subst hv
  exact ⟨l, wh, sh, rfl, la, ll, l33, so, sg2, fun v H'' s r => q v H'' s r⟩
theorem evq_area0 {CB : Addr} {σ : L2.St} {H : Hp} {E : XK} {ta : TA} {r1 c1 r2 c2 : Int × Bool} {s1 s2 : Option (List Nat)} (ha : EvAQ ta σ H (TwoR (AdrR pa.C r1 c1 s1) (AdrR pa.C r2 c2 s2))) (g1 : inG r1 c1) (g2 : inG r2 c2) (o1 : shOk s1) (q1 : shGood s1 = true) (o2 : shOk s2) (al : s2 = none ∨ alike s1 s2 = true) (nCA : p.CA ≠ pa.C) :
    EvQ (tMakeK p.CA 2 0 (spAInit K pa.C p.CA CB) (fun vs zs => vs ++ [.non]) E ta tNil) σ H (AreaR p.CA pa.C (Ar.norm ⟨(r1, r2), (c1, c2), .no, s1⟩)) := fun H1 e1 Q q =>
  ha H1 e1 _ fun vs H2 e2 ⟨a, b, hv, ⟨a1, h1, hA1⟩, ⟨a2, h2, hA2⟩⟩ => by
    subst hv h1 h2
    refine ⟨rfl, rfl, fun x dx nx ndx ne => ?_⟩
    have nx2 : (upd H2 dx (.own x)) x = none := by rw [upd_ne fun z => ne z.symm]; exact nx
    have e4 : Ex H2 (upd (upd H2 dx (.own x)) x (.ins p.CA dx [])) := (Ex.new ndx).trans (Ex.new nx2)
    refine ⟨x, dx, a1, .ref a2, .non, r1, c1, s1, rfl, upd_same, hA1.ex e4, g1, o1, q1, .inr ⟨a2, r2, c2, s2, rfl, hA2.ex e4, g2, o2, .inr ⟨al, .inr ⟨.no, rfl, fun H5 y1 y2 s5 hx5 h1 h2 => ⟨rfl, ?_⟩⟩⟩⟩⟩
    refine q _ H5 (fun b o hb => ?_) ⟨x, rfl, dx, y1, y2, hx5, h1, h2⟩
    have hb3 := e2 _ _ hb
    exact s5 b o (ne_of_none hb3 nx) (e4 _ _ hb3)
theorem eaq_vars {R R' : V → Hp → Prop} {σ : L2.St} {H : Hp} {ta : TA} {u v : V} (h : EvA ta σ H [u, v]) (r1 : R u H) (r2 : R' v H) (m1 : MonR R) (m2 : MonR R') : EvAQ ta σ H (TwoR R R') := fun H1 e Q q =>
  h H1 e _ fun H2 e2 => q [u, v] H2 e2 ⟨u, v, rfl, m1 _ _ _ (e.trans e2) r1, m2 _ _ _ (e.trans e2) r2⟩
theorem q_parQ {R R' : V → Hp → Prop} {σ : L2.St} {H : Hp} {ta : TA} {i j : Nat} {tz : TS} {D : Ends} (h : EvAQ ta σ H (TwoR R R')) (k : ∀ v w H1, Ex H H1 → R v H1 → R' w H1 → tz D ((σ.set i (some v)).set j (some w)) H1) : tSeq (tPar i j ta) tz D σ H :=
  h H (Ex.refl H) _ fun vs H1 e1 ⟨a, b, hv, r1, r2⟩ => by
    subst hv
    exact ⟨a, b, rfl, k a b H1 e1 r1 r2⟩
theorem cor_none {C : Addr} {wh : Wh} {l : List Nat} {sh : Option (List Nat)} {v : V} {H : Hp} (h : CorR C wh l sh v H) : decide (v = V.non) = decide (cornR wh l = none) := by
  rcases h with ⟨h1, rfl⟩ | ⟨r, c, h1, _, ⟨a, rfl, _⟩⟩
  · rw [decide_eq_true h1]; rfl
  · rw [h1]; rfl
theorem ok_read_area (TC : TxtC K mg pc) (TG : TxtG K mg pg) (TA : TxtA6 K mg pc.S pa) (Z : TxtB K mg pa D) (TR : TxtR K mg p) (MK : TxtK K pa p mv) (TX : TxtX K mg px) (MX : TxtD K pa p mc mr ma) : FnOk P w K mg base (L2.CX P w) 10 px.f_read_area px.d_read_area P_read_area (spReadArea K p.CA pa.C pc.CB pc.CN) := by
  have GA : FnOk P w K mg base (L2.CX P w) 8 p.m_init p.e_init P_Area_init (spAInit K pa.C p.CA pc.CB) := ok_Area_init TC TG TA Z TR MK
  have G_check_string : FnOk P w K mg base (L2.CX P w) 3 pc.f_check_string pc.d_check_string P_check_string (spString K pc.CB) := ok_check_string TC
  have G_is_sheet_name : FnOk P w K mg base CX0 1 pg.f_is_sheet_name pg.d_is_sheet_name P_is_sheet_name (spSheetName K) := ok_is_sheet_name TC TG
  have G__read_corner : FnOk P w K mg base (L2.CX P w) 8 px.f__read_corner px.d__read_corner P__read_corner (spRdCor pa.C) := ok__read_corner TC TG TA Z TX MX
  refine TX.F_read_area.okX sc_read_area (fun vs H Q E h => ?_) (fun cdv A outer s H vs Q E hr h => ?_)
  · obtain ⟨v, rfl, _⟩ := h
    rfl
  · obtain ⟨v, rfl, h⟩ := h
    refine ⟨_, (pss_cons (ps_expr (pe_call G_check_string (hr.mono (by decide)) (by rfl) TC.mg_check_string TC.F_check_string.kp TC.b_check_string .nil (passes_call (takes_of rfl rfl rfl rfl) fun _ _ _ _ h => h) (pa_cons (pv 0) pa_nil)))
      (pss_cons (ps_asg (pe_bm PySem.F.plainAttrs_str PySem.F.slot_str_rpartition PySem.F.type_str_rpartition mt_rpartition (pv 0) (pa_cons pe_str pa_nil)) (pg_tup (by rfl) (pgs_cons (pg_name (i := 1) sc_read_area.nd rfl (Or.inl rfl)) (pgs_cons (pg_name (i := 2) sc_read_area.nd rfl (Or.inl rfl)) (pgs_cons (pg_name (i := 3) sc_read_area.nd rfl (Or.inl rfl)) pgs_nil)))))
      (pss_cons (ps_if (PW.pt (pw_and (pt_truth (pv 2) (by intro _; rfl)) (pw_and1 (pt_not (pt_val (pe_call G_is_sheet_name (hr.mono (by decide)) (by rfl) TG.mg_is_sheet_name TG.F_is_sheet_name.kp TG.b_is_sheet_name .nil pass0 (pa_cons (pv 1) pa_nil))))))) (pss_one (ps_raise rfl (takes_of rfl rfl rfl rfl) (pmk_R (n := 1) TC.NotAName.ec (ok_NotAName_init TC.NotAName.F TC.NotAName.ec.ox TC.NotAName.no) (hr.mono (by decide)) (by rfl) TC.NotAName.gC (kp_NotAName_init TC.NotAName.F) hx0 (pa_cons (pv 0) pa_nil)))) pss_nil)
      (pss_cons (ps_asg (pe_bm PySem.F.plainAttrs_str PySem.F.slot_str_partition PySem.F.type_str_partition mt_partition (pv 3) (pa_cons pe_str pa_nil)) (pg_tup (by rfl) (pgs_cons (pg_name (i := 4) sc_read_area.nd rfl (Or.inl rfl)) (pgs_cons (pg_name (i := 5) sc_read_area.nd rfl (Or.inl rfl)) (pgs_cons (pg_name (i := 6) sc_read_area.nd rfl (Or.inl rfl)) pgs_nil)))))
      (pss_cons (ps_set (i := 7) sc_read_area.nd rfl (Or.inl rfl) (pe_ifExp (pt_truth (pv 2) (by intro _; rfl)) (pv 1) pe_non))
      (pss_cons (ps_if (pt_not (pt_truth (pv 5) (by intro _; rfl))) (pss_cons (ps_set (i := 8) sc_read_area.nd rfl (Or.inl rfl) (pe_call G__read_corner (hr.mono (by decide)) (by rfl) TX.mg__read_corner TX.F__read_corner.kp TX.b__read_corner .nil (passes_call (takes_of rfl rfl rfl rfl) fun _ _ _ _ h => h) (pa_cons (pv 3) (pa_cons pe_non (pa_cons (pv 7) pa_nil)))))
      (pss_cons (ps_if (pt_cmpR op_isN1 (pv 8) pe_non (nomark _)) (pss_one (ps_raise rfl (takes_of rfl rfl rfl rfl) (pmk_R (n := 1) TC.NotAName.ec (ok_NotAName_init TC.NotAName.F TC.NotAName.ec.ox TC.NotAName.no) (hr.mono (by decide)) (by rfl) TC.NotAName.gC (kp_NotAName_init TC.NotAName.F) hx0 (pa_cons (pv 0) pa_nil)))) pss_nil)
      (pss_one (ps_ret (pe_makeK (n := 2) TR.mkA GA (hr.mono (by decide)) (by rfl) TR.mg_Area MX.kb0A (passes_call (takes_of rfl rfl rfl rfl) fun _ _ _ _ h => h) (pa_cons (pv 8) (pa_cons (pv 8) pa_nil)) pk_nil))))) pss_nil)
      (pss_cons (ps_for (passes_of rfl) rfl (pi_tup (pe_glob (v := .ref px.aS) (by rfl) TX.mg_SORTS rfl)) (pg_name (i := 9) sc_read_area.nd rfl (Or.inl rfl)) (pss_cons (ps_par (i := 10) (j := 11) (by rfl) sc_read_area.nd rfl rfl (by decide) rfl rfl (pa_cons (pe_call G__read_corner (hr.mono (by decide)) (by rfl) TX.mg__read_corner TX.F__read_corner.kp TX.b__read_corner .nil (passes_call (takes_of rfl rfl rfl rfl) fun _ _ _ _ h => h) (pa_cons (pv 4) (pa_cons (pv 9) (pa_cons (pv 7) pa_nil)))) (pa_cons (pe_call G__read_corner (hr.mono (by decide)) (by rfl) TX.mg__read_corner TX.F__read_corner.kp TX.b__read_corner .nil (passes_call (takes_of rfl rfl rfl rfl) fun _ _ _ _ h => h) (pa_cons (pv 6) (pa_cons (pv 9) (pa_cons (pv 7) pa_nil)))) pa_nil)) (by rfl))
      (pss_one (ps_if (PW.pt (pw_and (pt_cmpR op_notN1 (pv 10) pe_non (nomark _)) (pw_and1 (pt_cmpR op_notN1 (pv 11) pe_non (nomark _))))) (pss_one (ps_ret (pe_makeK (n := 2) TR.mkA GA (hr.mono (by decide)) (by rfl) TR.mg_Area (kb_Area TR.F_init) (passes_call (takes_of rfl rfl rfl rfl) fun _ _ _ _ h => h) (pa_cons (pv 10) (pa_cons (pv 11) pa_nil)) (pk_cons (pv 9) pk_nil)))) pss_nil))))
      (pss_one (ps_raise rfl (takes_of rfl rfl rfl rfl) (pmk_R (n := 1) TC.NotAName.ec (ok_NotAName_init TC.NotAName.F TC.NotAName.ec.ox TC.NotAName.no) (hr.mono (by decide)) (by rfl) TC.NotAName.gC (kp_NotAName_init TC.NotAName.F) hx0 (pa_cons (pv 0) pa_nil))))))))))), ?_⟩
    rcases h with ⟨l, rfl, ha, hl, h1, h2⟩ | ⟨n, kn, hk, h1⟩
    · refine q_drop (v := .non) (fun H1 e Q q => ⟨_, rfl, .str (S l), "str", true, rfl, knd_str, by decide +kernel, fun _ H' s => q H' s, fun z => nomatch z⟩) fun H1 e1 => ?_
      refine q_rp (K := K) (ev_var rfl) (by omega) fun t H2 nt e2 ht => ?_
      have hP : (∀ c ∈ (rParts l).1, c < 128) ∧ (rParts l).1.length ≤ 980 ∧ (rParts l).2.1.length ≤ 1 ∧ (∀ c ∈ (rParts l).2.2, c < 128) ∧ (rParts l).2.2.length ≤ 980 ∧ 33 ∉ (rParts l).2.2 := by
        unfold rParts
        cases q : lastBang l with
        | none => exact ⟨fun c h => by simp at h, Nat.zero_le _, Nat.zero_le _, ha, hl, bang_none q⟩
        | some p =>
          obtain ⟨a, b⟩ := p
          obtain ⟨g1, g2⟩ := bang_some q
          have gl := congrArg List.length g1
          rw [List.length_append, List.length_cons] at gl
          exact ⟨fun c h => ha c (by rw [g1]; exact List.mem_append_left _ h), by show a.length ≤ 980; omega, Nat.le_refl 1, fun c h => ha c (by rw [g1]; exact List.mem_append_right _ (List.mem_cons_of_mem _ h)), by show b.length ≤ 980; omega, g2⟩
      have hpa : parseR l = if 0 < (rParts l).2.1.length then (if sheetOk (rParts l).1 = true then parseB (rParts l).2.2 (some (rParts l).1) else none) else parseB (rParts l).2.2 none := rfl
      generalize (rParts l).1 = a at hP ht hpa
      generalize (rParts l).2.1 = mk at hP ht hpa
      generalize (rParts l).2.2 = b at hP ht hpa
      obtain ⟨aa, al, ml, ba, bl, b33⟩ := hP
      rw [hpa] at h1 h2
      refine ⟨t, _, rfl, st_of ht, rfl, _, _, rfl, _, _, rfl, _, _, rfl, rfl, ?_⟩
      have e12 := e1.trans e2
      have eS : Ev (tCall (spSheetName K) [] E0 (tCons (tVar 1) tNil)) [some (.str (S l)), some (.str (S a)), some (.str (S mk)), some (.str (S b)), none, none, none, none, none, none, none, none] H2 (.bl (sheetOk a)) := fun H3 e Q q => ⟨_, rfl, .str (S a), rfl, .inl ⟨a, rfl, aa, by omega, fun H' s => q H' s⟩⟩
      refine q_when (et_and (et_truS (K := K) (m := mk) (by omega) (ev_var rfl)) fun _ => et_not (et_B eS)) (fun hb H3 e3 => ?_) (fun hb H3 e3 => ?_)
      · have e13 := e12.trans e3
        simp only [Bool.and_eq_true, decide_eq_true_eq, Bool.not_eq_true'] at hb
        rw [if_pos hb.1, hb.2] at h2
        exact ⟨_, rfl, rfl, rfl, by decide, rr_e1 (Q := E) fun d H' nd sm hd => h2 rfl d H' (e13.trans sm) (fresh_back e13 nd) hd⟩
      · have e13 := e12.trans e3
        have hz : ∃ sh, shOk sh ∧ shGood sh = true ∧ (if 0 < mk.length then (if sheetOk a = true then parseB b (some a) else none) else parseB b none) = parseB b sh ∧ sh = if 0 < mk.length then some a else none := by
          by_cases m0 : 0 < mk.length
          · have g : sheetOk a = true := by
              rw [decide_eq_true m0] at hb
              simpa using hb
            exact ⟨some a, ⟨aa, by omega⟩, g, by rw [if_pos m0, if_pos g], by rw [if_pos m0]⟩
          · exact ⟨none, True.intro, rfl, by rw [if_neg m0], by rw [if_neg m0]⟩
        obtain ⟨sh, so, sg2, hpc, hsh⟩ := hz
        rw [hpc] at h1 h2
        refine q_ptc (K := K) (ev_var rfl) (by omega) fun t2 H4 nt2 e4 ht2 => ?_
        have hQ : (∀ c ∈ (cParts b).1, c < 128) ∧ (cParts b).1.length ≤ 980 ∧ (cParts b).2.1.length ≤ 1 ∧ (∀ c ∈ (cParts b).2.2, c < 128) ∧ (cParts b).2.2.length ≤ 980 ∧ 33 ∉ (cParts b).1 ∧ 33 ∉ (cParts b).2.2 := by
          unfold cParts
          cases q : firstCol b with
          | none => exact ⟨ba, bl, Nat.zero_le _, fun c h => by simp at h, Nat.zero_le _, b33, fun h => by simp at h⟩
          | some p =>
            obtain ⟨x, y⟩ := p
            obtain ⟨g1, g2⟩ := fcol_some q
            have gl := congrArg List.length g1
            rw [List.length_append, List.length_cons] at gl
            have mx : ∀ c ∈ x, c ∈ b := fun c h => by rw [g1]; exact List.mem_append_left _ h
            have my : ∀ c ∈ y, c ∈ b := fun c h => by rw [g1]; exact List.mem_append_right _ (List.mem_cons_of_mem _ h)
            exact ⟨fun c h => ba c (mx c h), by show x.length ≤ 980; omega, Nat.le_refl 1, fun c h => ba c (my c h), by show y.length ≤ 980; omega, fun h => b33 (mx _ h), fun h => b33 (my _ h)⟩
        have hpb : parseB b sh = if 0 < (cParts b).2.1.length then (match tryW .no (cParts b).1 (cParts b).2.2 sh with | some A => some A | none => match tryW .cols (cParts b).1 (cParts b).2.2 sh with | some A => some A | none => tryW .rows (cParts b).1 (cParts b).2.2 sh) else tryW .no b b sh := rfl
        generalize (cParts b).1 = x at hQ ht2 hpb
        generalize (cParts b).2.1 = bt at hQ ht2 hpb
        generalize (cParts b).2.2 = y at hQ ht2 hpb
        obtain ⟨xa, xl, btl, ya, yl, x33, y33⟩ := hQ
        rw [hpb] at h1 h2
        refine ⟨t2, _, rfl, st_of ht2, rfl, _, _, rfl, _, _, rfl, _, _, rfl, rfl, ?_⟩
        have e14 := e13.trans e4
        refine q_asg (v := shV sh) (Evl.ev_if (et_truS (K := K) (m := mk) (by omega) (ev_var rfl)) (fun m0 => ?_) (fun m0 => ?_)) fun H5 e5 => ?_
        · have m0 := of_decide_eq_true m0
          rw [if_pos m0] at hsh
          rw [hsh]
          exact ev_var rfl
        · have m0 := of_decide_eq_false m0
          rw [if_neg m0] at hsh
          rw [hsh]
          exact ev_c
        have e15 := e14.trans e5
        refine q_when (et_not (et_truS (K := K) (m := bt) (by omega) (ev_var rfl))) (fun hb2 H6 e6 => ?_) (fun hb2 H6 e6 => ?_)
        · have nb : ¬ 0 < bt.length := by simpa using hb2
          rw [if_neg nb] at h1 h2
          have e16 := e15.trans e6
          refine q_asgQ (evq_rc (wh := .no) (sh := sh) (ev_var rfl) ev_c (ev_var rfl) ba bl b33 so sg2) fun c0 H7 e7 hc => ?_
          have e17 := e16.trans e7
          refine q_when (b := decide (cornR .no b = none)) (by
            rw [← cor_none hc]
            exact et_test (ev_op (ev_var rfl) ev_c fun H8 _ Q q => ⟨rfl, q H8 (Ex.refl H8)⟩)) (fun hz H8 e8 => ?_) (fun hz H8 e8 => ?_)
          · have e18 := e17.trans e8
            exact ⟨_, rfl, rfl, rfl, by decide, rr_e1 (Q := E) fun d H' nd sm hd => h2 (tryW_no1 (of_decide_eq_true hz)) d H' (e18.trans sm) (fresh_back e18 nd) hd⟩
          · have e18 := e17.trans e8
            rcases mon_cor _ _ _ e8 hc with ⟨hn, _⟩ | ⟨r, c, hs, hg, hr2⟩
            · exact absurd hn (of_decide_eq_false hz)
            · refine q_retQ (evq_area0 (r1 := r) (c1 := c) (r2 := r) (c2 := c) (s1 := sh) (s2 := sh) (eaq_vars (ea_cons (ev_var rfl) (ea_cons (ev_var rfl) ea_nil)) hr2 hr2 mon_adr mon_adr) hg hg so sg2 so (.inr (alike_refl _)) MK.nCA) fun v H9 e9 ⟨z, hv, hz2⟩ => ?_
              subst hv
              exact h1 _ (tryW_some hs hs) z H9 (e18.trans e9) hz2
        · have nb : 0 < bt.length := by simpa using hb2
          rw [if_pos nb] at h1 h2
          have e16 := e15.trans e6
          have hgo : ∀ i, i < 3 → ([V.non, .str "columns", .str "rows"] : List V)[i]? = some (whV (srt i)) := fun i hi => by
            match i, hi with
            | 0, _ => rfl
            | 1, _ => rfl
            | 2, _ => rfl
          refine ⟨_, rfl, ⟨_, TX.s_SORTS _⟩, fun i m σ' H' => ∃ w8 w9 w10 w11 : Option V, σ' = [some (.str (S l)), some (.str (S a)), some (.str (S mk)), some (.str (S b)), some (.str (S x)), some (.str (S bt)), some (.str (S y)), some (shV sh), w8, w9, w10, w11] ∧ Ex H H' ∧ m + i = 3 ∧ ∀ j, j < i → tryW (srt j) x y sh = none, ⟨3, none, none, none, none, rfl, e16, rfl, fun j hj => absurd hj (Nat.not_lt_zero _)⟩, ?_⟩
          rintro i m σ' H7 ⟨w8, w9, w10, w11, rfl, e7, hm, hno⟩
          by_cases hi : i < 3
          · refine .inr ⟨⟨_, _, TX.s_SORTS _, hgo i hi⟩, fun σ2 H2 => ∃ w8 w9 w10 w11 : Option V, σ2 = [some (.str (S l)), some (.str (S a)), some (.str (S mk)), some (.str (S b)), some (.str (S x)), some (.str (S bt)), some (.str (S y)), some (shV sh), w8, w9, w10, w11] ∧ Ex H H2 ∧ tryW (srt i) x y sh = none, fun σ2 H2 ⟨w8, w9, w10, w11, z1, z2, z3⟩ => ⟨m - 1, by omega, w8, w9, w10, w11, z1, z2, by omega, fun j hj => ?_⟩, fun v H8 hy => ?_⟩
            · rcases Nat.lt_succ_iff_lt_or_eq.mp hj with h | h
              · exact hno j h
              · rw [h]; exact z3
            · obtain ⟨rfl, hy⟩ := hy
              have hv := hy _ (TX.s_SORTS _)
              rw [hgo i hi] at hv
              cases hv
              refine q_parQ (eaq_two (evq_rc (wh := srt i) (sh := sh) (ev_var rfl) (ev_var rfl) (ev_var rfl) xa xl x33 so sg2) (evq_rc (wh := srt i) (sh := sh) (ev_var rfl) (ev_var rfl) (ev_var rfl) ya yl y33 so sg2) mon_cor) fun v1 v2 H8 e8 c1 c2 => ?_
              have e78 := e7.trans e8
              have en : ∀ {k : Nat} {u : V} {l2 : List Nat} {σ : L2.St}, σ[k]? = some (some u) → CorR pa.C (srt i) l2 sh u H8 → EvT (tTest (tOp rNotN (tVar k) (tC .non))) σ H8 (!decide (cornR (srt i) l2 = none)) := fun hk hc => by
                rw [← cor_none hc]
                exact et_test (ev_op (ev_var hk) ev_c fun H9 _ Q q => ⟨rfl, q H9 (Ex.refl H9)⟩)
              refine s_if (et_and (en rfl c1) fun _ => en rfl c2) (fun hz H9 e9 => ?_) (fun hz H9 e9 => ?_)
              · simp only [Bool.and_eq_true, Bool.not_eq_true', decide_eq_false_iff_not] at hz
                rcases c1 with ⟨z, _⟩ | ⟨r1, k1, s1, g1, a1⟩
                · exact absurd z hz.1
                rcases c2 with ⟨z, _⟩ | ⟨r2, k2, s2, g2, a2⟩
                · exact absurd z hz.2
                have e89 := e78.trans e9
                refine q_retQ (evq_area (r1 := r1) (c1 := k1) (r2 := r2) (c2 := k2) (s1 := sh) (s2 := sh) (wh := srt i) (eaq_vars (ea_cons (ev_var rfl) (ea_cons (ev_var rfl) ea_nil)) (mon_adr _ _ _ e9 a1) (mon_adr _ _ _ e9 a2) mon_adr mon_adr) (ev_var rfl) g1 g2 so sg2 so (.inr (alike_refl _)) MK.nCA) fun v Ha ea ⟨z, hv, hz2⟩ => ?_
                subst hv
                refine h1 _ ?_ z Ha (e89.trans ea) hz2
                have ht := tryW_some (sh := sh) s1 s2
                match i, hi, hno, ht with
                | 0, _, _, ht => exact by rw [show tryW .no x y sh = _ from ht]
                | 1, _, hno, ht => exact by rw [show tryW .no x y sh = none from hno 0 (by decide), show tryW .cols x y sh = _ from ht]
                | 2, _, hno, ht => exact by rw [show tryW .no x y sh = none from hno 0 (by decide), show tryW .cols x y sh = none from hno 1 (by decide)]; exact ht
              · refine ⟨_, _, _, _, rfl, e78.trans e9, ?_⟩
                by_cases z1 : cornR (srt i) x = none
                · exact tryW_no1 z1
                · by_cases z2 : cornR (srt i) y = none
                  · exact tryW_no2 z2
                  · rw [decide_eq_false z1, decide_eq_false z2] at hz
                    cases hz
          · have h3 : 3 ≤ i := by omega
            refine .inl ⟨⟨_, TX.s_SORTS _, h3⟩, ?_⟩
            exact ⟨_, rfl, rfl, rfl, by decide, rr_e1 (Q := E) fun d H' nd sm hd => h2 (by rw [show tryW .no x y sh = none from hno 0 (by omega), show tryW .cols x y sh = none from hno 1 (by omega)]; exact hno 2 (by omega)) d H' (e7.trans sm) (fresh_back e7 nd) hd⟩
    · exact ⟨_, rfl, v, n, false, rfl, kn, hk, (fun z => nomatch z), fun _ => h1⟩
end
end K18

set_option Elab.async false
set_option linter.all false
set_option maxRecDepth 100000
set_option maxHeartbeats 4000000
namespace K18
open PySem PySem.Spec PyProof.Rows L2 Pen EV2 Evl TX LamX
abbrev s_l_corner_text : Stmt := topS 76
abbrev N_l_corner_text : List Str := ["_law_area_here", "_law_at", "_law_rows", "_law_columns", "_law_whole", "_law_sheet", "_law_row", "_law_column_here"]
abbrev P_l_corner_text : List Str := ["_law_area_here", "_law_at"]
theorem sc_l_corner_text : FnScope N_l_corner_text P_l_corner_text (defScope s_l_corner_text) := ⟨rfl, rfl, rfl, by decide +kernel, rfl, by decide +kernel, by decide +kernel⟩
abbrev s_l_area_text : Stmt := topS 77
abbrev N_l_area_text : List Str := ["_law_area_here", "_law_first", "_law_last", "_law_is_one"]
abbrev P_l_area_text : List Str := ["_law_area_here"]
theorem sc_l_area_text : FnScope N_l_area_text P_l_area_text (defScope s_l_area_text) := ⟨rfl, rfl, rfl, by decide +kernel, rfl, by decide +kernel, by decide +kernel⟩
abbrev s_l_area_read : Stmt := topS 78
abbrev N_l_area_read : List Str := ["_law_text", "_law_sheet", "_law_rest", "_law_first", "_law_sign", "_law_last", "_law_one", "_law_other", "_law_rows", "_law_columns", "_law_any_two"]
abbrev P_l_area_read : List Str := ["_law_text"]
theorem sc_l_area_read : FnScope N_l_area_read P_l_area_read (defScope s_l_area_read) := ⟨rfl, rfl, rfl, by decide +kernel, rfl, by decide +kernel, by decide +kernel⟩
abbrev s_l_text_right : Stmt := topS 79
abbrev N_l_text_right : List Str := ["_law_pen_here", "_law_area_here", "_law_made_here", "_law_normal_here", "_law_text", "_law_rows", "_law_columns", "_law_whole", "_law_sheet", "_law_turned", "_law_long", "_law_small", "_law_back", "_law_ahead"]
abbrev P_l_text_right : List Str := ["_law_pen_here", "_law_area_here"]
theorem sc_l_text_right : FnScope N_l_text_right P_l_text_right (defScope s_l_text_right) := ⟨rfl, rfl, rfl, by decide +kernel, rfl, by decide +kernel, by decide +kernel⟩
abbrev s_l_spoilt_right : Stmt := topS 80
abbrev N_l_spoilt_right : List Str := ["_law_pen_here", "_law_area_here", "_law_turn", "_law_due", "_law_told_here", "_law_text"]
abbrev P_l_spoilt_right : List Str := ["_law_pen_here", "_law_area_here"]
theorem sc_l_spoilt_right : FnScope N_l_spoilt_right P_l_spoilt_right (defScope s_l_spoilt_right) := ⟨rfl, rfl, rfl, by decide +kernel, rfl, by decide +kernel, by decide +kernel⟩
structure AdY where
  f_l_corner_text : Addr
  d_l_corner_text : FuncData
  f_l_area_text : Addr
  d_l_area_text : FuncData
  f_l_area_read : Addr
  d_l_area_read : FuncData
  f_l_text_right : Addr
  d_l_text_right : FuncData
  f_l_spoilt_right : Addr
  d_l_spoilt_right : FuncData
structure TxtY (K : PySem.W.Frag) (mg : Str → Option Value) (p : AdY) : Prop where
  mg_l_corner_text : mg "_law_corner_text" = some (.ref p.f_l_corner_text)
  F_l_corner_text : Fun K "_law_corner_text" "_law_corner_text" s_l_corner_text p.f_l_corner_text p.d_l_corner_text
  b_l_corner_text : Binds K p.d_l_corner_text P_l_corner_text []
  mg_l_area_text : mg "_law_area_text" = some (.ref p.f_l_area_text)
  F_l_area_text : Fun K "_law_area_text" "_law_area_text" s_l_area_text p.f_l_area_text p.d_l_area_text
  b_l_area_text : Binds K p.d_l_area_text P_l_area_text []
  mg_l_area_read : mg "_law_area_read" = some (.ref p.f_l_area_read)
  F_l_area_read : Fun K "_law_area_read" "_law_area_read" s_l_area_read p.f_l_area_read p.d_l_area_read
  b_l_area_read : Binds K p.d_l_area_read P_l_area_read []
  mg_l_text_right : mg "_law_text_right" = some (.ref p.f_l_text_right)
  F_l_text_right : Fun K "_law_text_right" "_law_text_right" s_l_text_right p.f_l_text_right p.d_l_text_right
  b_l_text_right : Binds K p.d_l_text_right P_l_text_right []
  mg_l_spoilt_right : mg "_law_spoilt_right" = some (.ref p.f_l_spoilt_right)
  F_l_spoilt_right : Fun K "_law_spoilt_right" "_law_spoilt_right" s_l_spoilt_right p.f_l_spoilt_right p.d_l_spoilt_right
  b_l_spoilt_right : Binds K p.d_l_spoilt_right P_l_spoilt_right []

def spCTL : Sp := fun vs H Q _ => ∃ (t : Addr) (A : Ar) (j : Int), vs = [.ref t, .int j] ∧ LawAt H t A ∧ (j = 0 ∨ j = 1) ∧ inG (pk A.ro j) (pk A.co j) ∧ ∀ H', Same H H' → Q (.str (S (cT A.wh (pk A.ro j) (pk A.co j)))) H'
def spATL : Sp := fun vs H Q _ => ∃ (t : Addr) (A : Ar), vs = [.ref t] ∧ LawAt H t A ∧ A.On ∧ ∀ H', Same H H' → Q (.str (S (arT A))) H'
section
variable {P : Program} {w : World} {K : PySem.W.Frag} {mg : Str → Option Value} {base : Heap} {ph : AdL} {pn : AdN} {py : AdY}
theorem ok_l_corner_text (TH : TxtH K mg ph) (TN : TxtN K mg pn) (TY : TxtY K mg py) : FnOk P w K mg base CX0 4 py.f_l_corner_text py.d_l_corner_text P_l_corner_text spCTL := by
  have G_l_row_text : FnOk P w K mg base CX0 1 pn.f_row_text pn.d_row_text P_l_row_text spRowT := ok_row_text TN
  have G_l_column_text : FnOk P w K mg base CX0 3 pn.f_column_text pn.d_column_text P_l_column_text spColT := ok_column_text TH TN
  refine TY.F_l_corner_text.ok sc_l_corner_text (fun vs H Q E h => ?_) (fun cdv A outer s H vs Q E hr h => ?_)
  · obtain ⟨t, A, j, rfl, _⟩ := h
    rfl
  · obtain ⟨t, A, j, rfl, ⟨l, m, ht, ⟨_, x1, y1, e1, hl, hx1, hy1⟩, ⟨_, x2, y2, e2, hm, hx2, hy2⟩⟩, hj, g, k⟩ := h
    cases e1
    cases e2
    refine ⟨_, (pss_cons (ps_asg (pv 0) (pg_tup (by rfl) (pgs_cons (pg_name (i := 2) sc_l_corner_text.nd rfl (Or.inl rfl)) (pgs_cons (pg_name (i := 3) sc_l_corner_text.nd rfl (Or.inl rfl)) (pgs_cons (pg_name (i := 4) sc_l_corner_text.nd rfl (Or.inl rfl)) (pgs_cons (pg_name (i := 5) sc_l_corner_text.nd rfl (Or.inl rfl)) pgs_nil))))))
      (pss_cons (ps_set (i := 6) sc_l_corner_text.nd rfl (Or.inl rfl) (pe_ifExp (pt_cmpR op_eq (pv 4) pe_str (nomark _)) pe_str (pe_call G_l_row_text (hr.mono (by decide)) (by rfl) TN.mg_l_row_text TN.F_l_row_text.kp TN.b_l_row_text .nil pass0 (pa_cons (pe_ix ix_tup (pe_ix ix_list (pv 2) (pv 1) (fun _ _ => rfl)) pe_int (fun _ _ => rfl)) (pa_cons (pe_ix ix_tup (pe_ix ix_list (pv 2) (pv 1) (fun _ _ => rfl)) pe_int (fun _ _ => rfl)) pa_nil)))))
      (pss_cons (ps_set (i := 7) sc_l_corner_text.nd rfl (Or.inl rfl) (pe_ifExp (pt_cmpR op_eq (pv 4) pe_str (nomark _)) pe_str (pe_call G_l_column_text (hr.mono (by decide)) (by rfl) TN.mg_l_column_text TN.F_l_column_text.kp TN.b_l_column_text .nil pass0 (pa_cons (pe_ix ix_tup (pe_ix ix_list (pv 3) (pv 1) (fun _ _ => rfl)) pe_int (fun _ _ => rfl)) (pa_cons (pe_ix ix_tup (pe_ix ix_list (pv 3) (pv 1) (fun _ _ => rfl)) pe_int (fun _ _ => rfl)) pa_nil)))))
      (pss_one (ps_ret (pe_op op_add_str (pv 7) (pv 6))))))), ?_⟩
    refine ⟨_, rfl, t, _, rfl, st_of ht, rfl, _, _, rfl, _, _, rfl, _, _, rfl, _, _, rfl, rfl, ?_⟩
    dsimp only
    obtain ⟨⟨r1, r2⟩, c1, c2⟩ := g
    have er : (((pk A.ro j).1.toNat : Nat) : Int) = (pk A.ro j).1 := by omega
    have ec : (((pk A.co j).1.toNat : Nat) : Int) = (pk A.co j).1 := by omega
    obtain ⟨X1, X2, a1, a2, p1, p2⟩ : ∃ X1 X2 : Addr, atI [V.ref x1, V.ref y1] j = some (.ref X1) ∧ atI [V.ref x2, V.ref y2] j = some (.ref X2) ∧ PrAt H X1 (pk A.ro j) ∧ PrAt H X2 (pk A.co j) := by
      rcases hj with rfl | rfl
      · exact ⟨x1, x2, rfl, rfl, hx1, hx2⟩
      · exact ⟨y1, y2, rfl, rfl, hy1, hy2⟩
    have st : ∀ {a : Addr} {xs : List V} {H' : Hp}, H a = some (.tup xs) → Ex H H' → H' a = some (.tup xs) := fun h e => e _ _ h
    have f1 : ∀ {i : Int} {v u6 u7 : Option V} {H' : Hp} {w : V}, Ex H H' → atI [V.int (pk A.ro j).1, V.bl (pk A.ro j).2] i = some w → Ev (tOp (rIxT K) (tOp (rIxL K) (tVar 2) (tVar 1)) (tC (.int i))) [some (.ref t), some (.int j), some (.ref l), some (.ref m), some (whV A.wh), some (shV A.sh), u6, u7] H' w := fun e h => ev_op (ev_op (ev_var (v := .ref l) rfl) (ev_var (v := .int j) rfl) (rv_ixL (sq_of (e _ _ hl)) a1)) ev_c (rv_ixT (st_of (e _ _ p1)) h)
    have f2 : ∀ {i : Int} {v u6 u7 : Option V} {H' : Hp} {w : V}, Ex H H' → atI [V.int (pk A.co j).1, V.bl (pk A.co j).2] i = some w → Ev (tOp (rIxT K) (tOp (rIxL K) (tVar 3) (tVar 1)) (tC (.int i))) [some (.ref t), some (.int j), some (.ref l), some (.ref m), some (whV A.wh), some (shV A.sh), u6, u7] H' w := fun e h => ev_op (ev_op (ev_var (v := .ref m) rfl) (ev_var (v := .int j) rfl) (rv_ixL (sq_of (e _ _ hm)) a2)) ev_c (rv_ixT (st_of (e _ _ p2)) h)
    refine q_asg (v := .str (S (if A.wh = .cols then [] else rowT (pk A.ro j).1.toNat (pk A.ro j).2))) (Evl.ev_if (cqW (wh := A.wh) (u := .cols) rfl rfl) (fun hb => by rw [if_pos (of_decide_eq_true hb)]; exact ev_c) (fun hb => by
      rw [if_neg (of_decide_eq_false hb)]
      exact ev_call (ea_cons (f1 (v := none) (w := .int (pk A.ro j).1) (Ex.refl H) rfl) (ea_cons (f1 (v := none) (w := .bl (pk A.ro j).2) (Ex.refl H) rfl) ea_nil)) fun H2 e Q q E => ⟨(pk A.ro j).1.toNat, (pk A.ro j).2, by rw [er]; rfl, by omega, fun H' s => q H' s⟩)) fun H1 e1 => ?_
    refine q_asg (v := .str (S (if A.wh = .rows then [] else colT (pk A.co j).1.toNat (pk A.co j).2))) (Evl.ev_if (cqW (wh := A.wh) (u := .rows) rfl rfl) (fun hb => by rw [if_pos (of_decide_eq_true hb)]; exact ev_c) (fun hb => by
      rw [if_neg (of_decide_eq_false hb)]
      exact ev_call (ea_cons (f2 (v := none) (w := .int (pk A.co j).1) e1 rfl) (ea_cons (f2 (v := none) (w := .bl (pk A.co j).2) e1 rfl) ea_nil)) fun H2 e Q q E => ⟨(pk A.co j).1.toNat, (pk A.co j).2, by rw [ec]; rfl, by omega, by omega, fun H' s => q H' s⟩)) fun H2 e2 => ?_
    have z : cT A.wh (pk A.ro j) (pk A.co j) = (if A.wh = .rows then [] else colT (pk A.co j).1.toNat (pk A.co j).2) ++ (if A.wh = .cols then [] else rowT (pk A.ro j).1.toNat (pk A.ro j).2) := by
      unfold cT cornT
      cases A.wh <;> simp
    have zl := cT_len (wh := A.wh) (r := pk A.ro j) (c := pk A.co j) ⟨⟨r1, r2⟩, c1, c2⟩
    rw [z, List.length_append] at zl
    refine (ev_addS (ev_var rfl) (ev_var rfl) (by omega)) H2 (Ex.refl H2) _ fun H3 e3 => ?_
    rw [← z]
    exact k H3 ((e1.trans e2).trans e3)
theorem ok_l_area_text (TH : TxtH K mg ph) (TN : TxtN K mg pn) (TY : TxtY K mg py) : FnOk P w K mg base CX0 5 py.f_l_area_text py.d_l_area_text P_l_area_text spATL := by
  have G_l_corner_text : FnOk P w K mg base CX0 4 py.f_l_corner_text py.d_l_corner_text P_l_corner_text spCTL := ok_l_corner_text TH TN TY
  have G_l_sheet_text : FnOk P w K mg base CX0 1 pn.f_sheet_text pn.d_sheet_text P_l_sheet_text spShT := ok_sheet_text TN
  refine TY.F_l_area_text.ok sc_l_area_text (fun vs H Q E h => ?_) (fun cdv A outer s H vs Q E hr h => ?_)
  · obtain ⟨t, A, rfl, _⟩ := h
    rfl
  · obtain ⟨t, A, rfl, hA, on, k⟩ := h
    refine ⟨_, (pss_cons (ps_par (i := 1) (j := 2) (by rfl) sc_l_area_text.nd rfl rfl (by decide) rfl rfl (pa_cons (pe_call G_l_corner_text (hr.mono (by decide)) (by rfl) TY.mg_l_corner_text TY.F_l_corner_text.kp TY.b_l_corner_text .nil pass0 (pa_cons (pv 0) (pa_cons pe_int pa_nil))) (pa_cons (pe_call G_l_corner_text (hr.mono (by decide)) (by rfl) TY.mg_l_corner_text TY.F_l_corner_text.kp TY.b_l_corner_text .nil pass0 (pa_cons (pv 0) (pa_cons pe_int pa_nil))) pa_nil)) (by rfl))
      (pss_cons (ps_set (i := 3) sc_l_area_text.nd rfl (Or.inl rfl) (pe_and (pe_cmpR op_isN1 (pe_ix ix_tup (pv 0) pe_int (fun _ _ => rfl)) pe_non (nomark _)) (pe_one (pe_cmpR op_eq (pv 1) (pv 2) (nomark _)))))
      (pss_one (ps_ret (pe_op op_add_str (pe_call G_l_sheet_text (hr.mono (by decide)) (by rfl) TN.mg_l_sheet_text TN.F_l_sheet_text.kp TN.b_l_sheet_text .nil pass0 (pa_cons (pe_ix ix_tup (pv 0) pe_int (fun _ _ => rfl)) pa_nil)) (pe_ifExp (pt_val (pv 3)) (pv 1) (pe_op op_add_str (pe_op op_add_str (pv 1) pe_str) (pv 2)))))))), ?_⟩
    have hA' := hA
    obtain ⟨l, m, ht, _⟩ := hA'
    have ek : ∀ {H' : Hp} {σ : L2.St} (j : Int), Ex H H' → (j = 0 ∨ j = 1) → inG (pk A.ro j) (pk A.co j) → σ[0]? = some (some (.ref t)) → Ev (tCall spCTL [] E0 (tCons (tVar 0) (tCons (tC (.int j)) tNil))) σ H' (.str (S (cT A.wh (pk A.ro j) (pk A.co j)))) := fun j e hj g h0 =>
      ev_call (ea_cons (ev_var h0) (ea_cons ev_c ea_nil)) fun H2 e2 Q q E => ⟨t, A, j, rfl, (hA.ex e).ex e2, hj, g, fun H' s => q H' s⟩
    refine q_parT (ea_cons (ek 0 (Ex.refl H) (.inl rfl) on.a rfl) (ea_cons (ek 1 (Ex.refl H) (.inr rfl) on.b rfl) ea_nil)) fun H1 e1 => ?_
    have hS : ∀ x y : List Nat, decide (V.str (S x) = V.str (S y)) = decide (x = y) := fun x y => by
      by_cases z : x = y
      · rw [z, decide_eq_true rfl, decide_eq_true rfl]
      · rw [decide_eq_false z, decide_eq_false fun q => z (S_inj (V.str.inj q))]
    have hW : decide (whV A.wh = V.non) = decide (A.wh = .no) := by cases A.wh <;> first | rfl | decide +kernel
    have ix : ∀ {H' : Hp} {σ : L2.St} {i : Int} {v : V}, Ex H H' → σ[0]? = some (some (.ref t)) → atI [V.ref l, V.ref m, whV A.wh, shV A.sh] i = some v → Ev (tOp (rIxT K) (tVar 0) (tC (.int i))) σ H' v := fun e h0 h => ev_op (ev_var h0) ev_c (rv_ixT (st_of (e _ _ ht)) h)
    refine q_asg (v := .bl (isOne A)) (ev_andV (ev_op (ix e1 rfl rfl) ev_c fun H3 _ Q q => ⟨rfl, by rw [hW]; exact q H3 (Ex.refl H3)⟩) fun _ => by
      show Ev _ _ _ (V.bl (decide (cT A.wh (pk A.ro 0) (pk A.co 0) = cT A.wh (pk A.ro 1) (pk A.co 1))))
      rw [← hS]
      exact ev_op (ev_var rfl) (ev_var rfl) (rv_eq rfl)) fun H2 e2 => ?_
    have e12 := e1.trans e2
    have z1 := cT_len (wh := A.wh) on.a
    have z2 := cT_len (wh := A.wh) on.b
    have zs : (shT A.sh).length ≤ 1001 := by
      have so := on.so
      cases q : A.sh with
      | none => exact Nat.zero_le _
      | some l =>
        rw [q] at so
        have := so.2
        show (l ++ [33]).length ≤ 1001
        rw [List.length_append]
        show l.length + 1 ≤ 1001
        omega
    have zc : (corsT A).length ≤ 25 := by
      unfold corsT
      rw [List.length_append, List.length_cons]
      omega
    refine (ev_addS (l := shT A.sh) (m := if isOne A = true then cT A.wh A.ro.1 A.co.1 else corsT A) (ev_call (ea_cons (ix e12 rfl rfl) ea_nil) fun H3 e3 Q q E => ⟨A.sh, rfl, on.so, fun H' s => q H' s⟩) (Evl.ev_if (b := isOne A) (et_B (ev_var rfl)) (fun hb => by rw [if_pos hb]; exact ev_var rfl) (fun hb => by
      rw [hb]
      show Ev _ _ _ (.str (S (corsT A)))
      have z : corsT A = cT A.wh A.ro.1 A.co.1 ++ [58] ++ cT A.wh A.ro.2 A.co.2 := by
        unfold corsT
        simp
      rw [z]
      exact ev_addS (ev_addS (l := cT A.wh A.ro.1 A.co.1) (m := [58]) (ev_var rfl) ev_c (by show _ + 1 ≤ _; omega)) (m := cT A.wh A.ro.2 A.co.2) (ev_var rfl) (by rw [List.length_append]; show _ + 1 + _ ≤ _; omega))) (by split <;> omega)) H2 (Ex.refl H2) _ fun H3 e3 => k H3 (e12.trans e3)
end
end K18

set_option Elab.async false
set_option linter.all false
set_option maxRecDepth 100000
set_option maxHeartbeats 4000000
namespace K18
open PySem PySem.Spec PyProof.Rows L2 Pen EV2 Evl TX LamX
theorem corn_bang {wh : Wh} {l : List Nat} (h : 33 ∈ l) : cornR wh l = none := by
  have h1 : 33 ∈ strip36 l := strip_mem h (by decide)
  cases wh with
  | no =>
    have z := cell_bang (sh := none) h
    unfold parseC at z
    refine if_neg fun q => ?_
    rw [if_pos q] at z
    cases z
  | cols =>
    refine if_neg fun q => ?_
    unfold colText at q
    simp only [Bool.and_eq_true] at q
    exact absurd (List.all_eq_true.mp q.2 33 h1) (by decide)
  | rows =>
    refine if_neg fun q => ?_
    unfold rowText at q
    simp only [Bool.and_eq_true] at q
    exact absurd (List.all_eq_true.mp q.1.1.2 33 h1) (by decide)
theorem area_bang {b : List Nat} {sh : Option (List Nat)} (h : 33 ∈ b) : parseB b sh = none := by
  unfold parseB
  by_cases z : 0 < (cParts b).2.1.length
  · rw [if_pos z]
    have hx : 33 ∈ (cParts b).1 ∨ 33 ∈ (cParts b).2.2 := by
      unfold cParts at z ⊢
      cases q : firstCol b with
      | none => exact .inl h
      | some p =>
        obtain ⟨x, y⟩ := p
        obtain ⟨g1, _⟩ := fcol_some q
        rw [g1] at h
        rcases List.mem_append.mp h with h | h
        · exact .inl h
        · rcases List.mem_cons.mp h with h | h
          · exact absurd h (by decide)
          · exact .inr h
    have t : ∀ wh, tryW wh (cParts b).1 (cParts b).2.2 sh = none := fun wh => by
      rcases hx with h | h
      · exact tryW_no1 (corn_bang h)
      · exact tryW_no2 (corn_bang h)
    rw [t, t, t]
  · rw [if_neg z]
    exact tryW_no1 (corn_bang h)
def parseRM (l : List Nat) : Option Ar := match lastBang l with
  | none => parseB l none
  | some (a, b) => if sheetOk a = true then parseB b (some a) else none
def parseRF (l : List Nat) : Option Ar := match firstBang l with
  | none => parseB l none
  | some (a, b) => if sheetOk a = true then parseB b (some a) else none
theorem parseR_M (l : List Nat) : parseR l = parseRM l := by
  unfold parseR parseRM rParts
  cases lastBang l with
  | none => rfl
  | some p => rfl
theorem area_same (l : List Nat) : parseRF l = parseRM l := by
  unfold parseRF
  cases q : firstBang l with
  | none =>
    have n := fbang_none q
    unfold parseRM
    cases q2 : lastBang l with
    | none => rfl
    | some p =>
      obtain ⟨a, b⟩ := p
      exact absurd (by rw [(bang_some q2).1]; simp) n
  | some p =>
    obtain ⟨a, b⟩ := p
    obtain ⟨e, n⟩ := fbang_some q
    by_cases hb : 33 ∈ b
    · have z1 : (if sheetOk a = true then parseB b (some a) else none) = none := by
        rw [area_bang hb]
        exact ite_self none
      show (if sheetOk a = true then parseB b (some a) else none) = _
      rw [z1]
      unfold parseRM
      cases q2 : lastBang l with
      | none => exact absurd (by rw [e]; simp) (bang_none q2)
      | some p =>
        obtain ⟨a2, b2⟩ := p
        obtain ⟨e2, n2⟩ := bang_some q2
        have h33 : 33 ∈ a2 := by
          apply Classical.byContradiction
          intro h
          -- with no '!' in a2 the first is the last
          have e3 := e.symm.trans e2
          have key : ∀ (u v s t : List Nat), 33 ∉ u → 33 ∉ v → u ++ 33 :: s = v ++ 33 :: t → s = t := by
            intro u
            induction u with
            | nil =>
              intro v s t _ hv h
              cases v with
              | nil => exact (List.cons.inj h).2
              | cons x v => exact absurd (List.mem_cons.mpr (.inl (List.cons.inj h).1)) hv
            | cons y u ih =>
              intro v s t hu hv h
              cases v with
              | nil => exact absurd (List.mem_cons.mpr (.inl (List.cons.inj h).1.symm)) hu
              | cons x v => exact ih v s t (fun z => hu (List.mem_cons_of_mem _ z)) (fun z => hv (List.mem_cons_of_mem _ z)) (List.cons.inj h).2
          have hh := key a a2 b b2 n h e3
          exact n2 (hh ▸ hb)
        show none = (if sheetOk a2 = true then parseB b2 (some a2) else none)
        rw [sheet_bang h33]
        rfl
    · unfold parseRM
      rw [bang_eq e hb]
theorem parse_areas (l : List Nat) : parseRF l = parseR l := (area_same l).trans (parseR_M l).symm
end K18

set_option Elab.async false
set_option linter.all false
set_option maxRecDepth 100000
set_option maxHeartbeats 4000000
namespace K18
open PySem PySem.Spec PyProof.Rows L2 Pen EV2 Evl TX LamX
/-- what read_cell, read_column, read_row tell -/
def CelR (x : List Nat) (sh : Option (List Nat)) : V → Hp → Prop := fun v H' => (cornR .no x = none ∧ v = .non) ∨ ∃ r c, cornR .no x = some (r, c) ∧ TupR (plc r.1 c.1 r.2 c.2 sh) v H'
def ColR (x : List Nat) : V → Hp → Prop := fun v H' => (cornR .cols x = none ∧ v = .non) ∨ ∃ c : Int × Bool, cornR .cols x = some ((1, false), c) ∧ TupR [.int c.1, .bl c.2] v H'
def LinR (x : List Nat) : V → Hp → Prop := fun v H' => (cornR .rows x = none ∧ v = .non) ∨ ∃ r : Int × Bool, cornR .rows x = some (r, (1, false)) ∧ TupR [.int r.1, .bl r.2] v H'
theorem mon_cel {x : List Nat} {sh : Option (List Nat)} : MonR (CelR x sh) := fun v H H' e h => h.imp id fun ⟨r, c, h1, h2⟩ => ⟨r, c, h1, mon_tup _ _ _ e h2⟩
theorem mon_col {x : List Nat} : MonR (ColR x) := fun v H H' e h => h.imp id fun ⟨c, h1, h2⟩ => ⟨c, h1, mon_tup _ _ _ e h2⟩
theorem mon_lin {x : List Nat} : MonR (LinR x) := fun v H H' e h => h.imp id fun ⟨c, h1, h2⟩ => ⟨c, h1, mon_tup _ _ _ e h2⟩
theorem cel_none {x : List Nat} {sh : Option (List Nat)} {v : V} {H : Hp} (h : CelR x sh v H) : decide (v = V.non) = decide (cornR .no x = none) := by
  rcases h with ⟨h1, rfl⟩ | ⟨r, c, h1, ⟨a, rfl, _⟩⟩
  · rw [decide_eq_true h1]; rfl
  · rw [h1]; rfl
def spARL (TT : List (Addr × Str)) : Sp := fun vs H Q _ => ∃ l : List Nat, vs = [.str (S l)] ∧ (∀ c ∈ l, c < 128) ∧ l.length ≤ 980 ∧ Tabs TT H ∧
  (parseR l = none → ∀ H', ExtN H H' → Tabs TT H' → Q .non H') ∧ (∀ A, parseR l = some A → ∀ v H', ExtN H H' → Tabs TT H' → LawR A v H' → Q v H')
section
variable {P : Program} {w : World} {K : PySem.W.Frag} {mg : Str → Option Value} {base : Heap} {ph : AdL} {p2 : AdN2} {p3 : AdN3} {p5 : AdN5} {pl : AdW} {py : AdY}
section
variable {σ : L2.St} {H : Hp} {ta ts tb : TE} {x y : List Nat} {sh : Option (List Nat)}
theorem evq_cell (h1 : Ev ta σ H (.str (S x))) (h2 : Ev ts σ H (shV sh)) (xa : ∀ c ∈ x, c < 128) (xl : x.length ≤ 1000) : EvQ (tCall spReadCell [] E0 (tCons ta (tCons ts tNil))) σ H (CelR x sh) := evq_call (eaq_of (ea_cons h1 (ea_cons h2 ea_nil))) fun vs H' e hv Q q => by
  subst hv
  refine ⟨x, sh, rfl, xa, xl, fun hp H2 s => q _ H2 s (.inl ⟨?_, rfl⟩), fun r c fr fc s hp t H2 nt sm ht => q _ H2 sm (.inr ?_)⟩
  · refine if_neg fun z => ?_
    unfold parseC at hp
    rw [if_pos z] at hp
    cases hp
  · unfold parseC at hp
    by_cases z : colText (cellParts x).1 = true ∧ rowText (cellParts x).2.2.1 = true
    · rw [if_pos z] at hp
      cases hp
      exact ⟨_, _, if_pos z, t, rfl, ht⟩
    · rw [if_neg z] at hp
      cases hp
theorem evq_col (h1 : Ev ta σ H (.str (S x))) (xa : ∀ c ∈ x, c < 128) (xl : x.length ≤ 1000) : EvQ (tCall spReadC [] E0 (tCons ta tNil)) σ H (ColR x) := evq_call (eaq_of (ea_cons h1 ea_nil)) fun vs H' e hv Q q => by
  subst hv
  exact ⟨x, rfl, xa, xl, fun hp H2 s => q _ H2 s (.inl ⟨if_neg (by rw [hp]; decide), rfl⟩), fun hp t H2 nt sm ht => q _ H2 sm (.inr ⟨_, if_pos hp, t, rfl, ht⟩)⟩
theorem evq_lin (h1 : Ev ta σ H (.str (S x))) (xa : ∀ c ∈ x, c < 128) (xl : x.length ≤ 1000) : EvQ (tCall spReadR [] E0 (tCons ta tNil)) σ H (LinR x) := evq_call (eaq_of (ea_cons h1 ea_nil)) fun vs H' e hv Q q => by
  subst hv
  exact ⟨x, rfl, xa, xl, fun hp H2 s => q _ H2 s (.inl ⟨if_neg (by rw [hp]; decide), rfl⟩), fun hp t H2 nt sm ht => q _ H2 sm (.inr ⟨_, if_pos hp, t, rfl, ht⟩)⟩
/-- None not in a list of two that are None or a pair -/
def PnR (d : Option (Int × Bool)) : V → Hp → Prop := fun v H' => (d = none ∧ v = .non) ∨ ∃ c : Int × Bool, d = some c ∧ TupR [.int c.1, .bl c.2] v H'
def pnD : Option (Int × Bool) → PyData
  | none => .none
  | some c => .tuple [.int c.1, .bool c.2]
theorem pn_dp {d : Option (Int × Bool)} {v : V} {H : Hp} (h : PnR d v H) : Dp K H v (pnD d) := by
  rcases h with ⟨rfl, rfl⟩ | ⟨c, rfl, a, rfl, h⟩
  · exact .non
  · exact .tup (st_of h) (.cons (.int _) (.cons (.bl _) .nil))
theorem et_notin {i : Nat} {d1 d2 : Option (Int × Bool)} {u : Addr} {v1 v2 : V} (hi : σ[i]? = some (some (.ref u))) (hu : H u = some (.lst [v1, v2])) (h1 : PnR d1 v1 H) (h2 : PnR d2 v2 H) (m1 : ∀ H', Ex H H' → PnR d1 v1 H' ∧ PnR d2 v2 H') :
    EvT (tTest (tOp (rNotInD K) (tC .non) (tVar i))) σ H (d1.isSome && d2.isSome) := et_test (ev_op ev_c (ev_var hi) fun H1 e Q q => by
  obtain ⟨p1, p2⟩ := m1 H1 e
  refine ⟨.none, [pnD d1, pnD d2], .non, .lst (sq_of (e _ _ hu)) (.cons (pn_dp p1) (.cons (pn_dp p2) .nil)), rfl, ?_, ?_⟩
  · cases d1 <;> cases d2 <;> rfl
  · have z : (!([pnD d1, pnD d2].any fun z => PyData.eqv z .none)) = (d1.isSome && d2.isSome) := by cases d1 <;> cases d2 <;> rfl
    rw [z]
    exact q H1 (Ex.refl H1))
end
end
end K18

set_option Elab.async false
set_option linter.all false
set_option maxRecDepth 100000
set_option maxHeartbeats 4000000
namespace K18
open PySem PySem.Spec PyProof.Rows L2 Pen EV2 Evl TX LamX
section
variable {P : Program} {w : World} {K : PySem.W.Frag} {mg : Str → Option Value} {base : Heap} {ph : AdL} {p2 : AdN2} {p3 : AdN3} {p5 : AdN5} {pl : AdW} {py : AdY}
theorem col_pn {x : List Nat} {v : V} {H : Hp} (h : ColR x v H) : PnR ((cornR .cols x).map (·.2)) v H := by
  rcases h with ⟨h1, rfl⟩ | ⟨c, h1, h2⟩
  · exact .inl ⟨by rw [h1]; rfl, rfl⟩
  · exact .inr ⟨c, by rw [h1]; rfl, h2⟩
theorem lin_pn {x : List Nat} {v : V} {H : Hp} (h : LinR x v H) : PnR ((cornR .rows x).map (·.1)) v H := by
  rcases h with ⟨h1, rfl⟩ | ⟨c, h1, h2⟩
  · exact .inl ⟨by rw [h1]; rfl, rfl⟩
  · exact .inr ⟨c, by rw [h1]; rfl, h2⟩
theorem evq_lawT {σ : L2.St} {H : Hp} {ta : TA} {A : Ar} {v8 v9 : V} (h : EvA ta σ H [v8, v9, whV A.wh, shV A.sh]) (r8 : RowR A.ro v8 H) (r9 : RowR A.co v9 H) : EvQ (tTup ta) σ H (LawR A) :=
  (evq_new (eu_tup h (by show 4 ≤ 100000; decide))).to fun v H' e ⟨t, hv, ht⟩ => by
    have r8' := mon_row _ _ _ e r8
    have r9' := mon_row _ _ _ e r9
    have r8c := r8'
    have r9c := r9'
    obtain ⟨u1, _, _, rfl, _⟩ := r8c
    obtain ⟨u2, _, _, rfl, _⟩ := r9c
    exact ⟨t, hv, u1, u2, ht, r8', r9'⟩
theorem q_normal {TT : List (Addr × Str)} {σ : L2.St} {H : Hp} {te : TE} {A : Ar} {D : Ends} (h : EvQ te σ H (LawR A)) (hT : Tabs TT H) (k : ∀ v H', ExtN H H' → Tabs TT H' → LawR A.norm v H' → D.rt v H') : tRet (tCall (spNormal TT) [] E0 (tCons te tNil)) D σ H :=
  h H (Ex.refl H) _ fun u H1 e1 ⟨t, hu, ht⟩ => by
    subst hu
    exact ⟨t, A, rfl, ht, hT.ext e1, fun v H2 e2 T2 r => k v H2 ((ExtN.of e1).trans e2) T2 r⟩
theorem q_retIf {t : TT} {ta tb : TE} {σ : L2.St} {H : Hp} {D : Ends} {b : Bool} (h : EvT t σ H b) (h1 : b = true → ∀ H1, Ex H H1 → tRet ta D σ H1) (h2 : b = false → ∀ H1, Ex H H1 → tRet tb D σ H1) : tRet (tIf t ta tb) D σ H := h H (Ex.refl H) _ fun H1 e1 => by
  cases b with
  | true => exact h1 rfl H1 e1
  | false => exact h2 rfl H1 e1
theorem pc2 {σ : L2.St} {H' : Hp} {a b : Int} {x y : Bool} : EvQ (tLst (tCons (tTup (tCons (tC (.int a)) (tCons (tC (.bl x)) tNil))) (tCons (tTup (tCons (tC (.int b)) (tCons (tC (.bl y)) tNil))) tNil))) σ H' (RowR ((a, x), (b, y))) :=
  (evq_lst2 (evq_new (eu_tup (vs := [.int a, .bl x]) (ea_cons ev_c (ea_cons ev_c ea_nil)) (by show 2 ≤ 100000; decide))) (evq_new (eu_tup (vs := [.int b, .bl y]) (ea_cons ev_c (ea_cons ev_c ea_nil)) (by show 2 ≤ 100000; decide))) mon_tup mon_tup).to fun v H' e ⟨u, a, b, hv, hu, ⟨a', ha, ha2⟩, ⟨b', hb, hb2⟩⟩ => by
    subst hv ha hb
    exact ⟨u, a', b', rfl, hu, ha2, hb2⟩
theorem row_of {u : Addr} {v1 v2 : V} {H : Hp} {x y : Int × Bool} (hu : H u = some (.lst [v1, v2])) (h1 : TupR [.int x.1, .bl x.2] v1 H) (h2 : TupR [.int y.1, .bl y.2] v2 H) : RowR (x, y) (.ref u) H := by
  obtain ⟨a, rfl, ha⟩ := h1
  obtain ⟨b, rfl, hb⟩ := h2
  exact ⟨u, a, b, rfl, hu, ha, hb⟩
theorem ok_l_area_read {TT : List (Addr × Str)} (TH : TxtH K mg ph) (T2 : TxtN2 K mg p2) (TN3 : TxtN3 K mg p3) (TN5 : TxtN5 K mg p5) (TL : TxtL K mg pl) (TY : TxtY K mg py) (G_l_normal : FnOk P w K mg base CX0 6 pl.f_normal pl.d_normal P_l_normal (spNormal TT)) : FnOk P w K mg base CX0 7 py.f_l_area_read py.d_l_area_read P_l_area_read (spARL TT) := by
  have G_l_parted : FnOk P w K mg base CX0 4 p5.f_parted p5.d_parted P_l_parted spParted := ok_l_parted TH T2 TN5
  have G_l_read_cell : FnOk P w K mg base CX0 4 p3.f_read_cell p3.d_read_cell P_l_read_cell spReadCell := ok_l_read_cell TH T2 TN3
  have G_l_read_column : FnOk P w K mg base CX0 3 p3.f_read_column p3.d_read_column P_l_read_column spReadC := ok_l_read_column TH TN3
  have G_l_read_row : FnOk P w K mg base CX0 3 p3.f_read_row p3.d_read_row P_l_read_row spReadR := ok_l_read_row TH T2 TN3
  refine TY.F_l_area_read.ok sc_l_area_read (fun vs H Q E h => ?_) (fun cdv A outer s H vs Q E hr h => ?_)
  · obtain ⟨l, rfl, _⟩ := h
    rfl
  · obtain ⟨l, rfl, la, ll, hT, kN, kS⟩ := h
    refine ⟨_, (pss_cons (ps_asg (pe_call G_l_parted (hr.mono (by decide)) (by rfl) TN5.mg_l_parted TN5.F_l_parted.kp TN5.b_l_parted .nil pass0 (pa_cons (pv 0) pa_nil)) (pg_tup (by rfl) (pgs_cons (pg_name (i := 1) sc_l_area_read.nd rfl (Or.inl rfl)) (pgs_cons (pg_name (i := 2) sc_l_area_read.nd rfl (Or.inl rfl)) pgs_nil))))
      (pss_cons (ps_if (pt_cmpR op_isN1 (pv 2) pe_non (nomark _)) (pss_one (ps_ret pe_non)) pss_nil)
      (pss_cons (ps_asg (pe_bm PySem.F.plainAttrs_str PySem.F.slot_str_partition PySem.F.type_str_partition mt_partition (pv 2) (pa_cons pe_str pa_nil)) (pg_tup (by rfl) (pgs_cons (pg_name (i := 3) sc_l_area_read.nd rfl (Or.inl rfl)) (pgs_cons (pg_name (i := 4) sc_l_area_read.nd rfl (Or.inl rfl)) (pgs_cons (pg_name (i := 5) sc_l_area_read.nd rfl (Or.inl rfl)) pgs_nil)))))
      (pss_cons (ps_if (pt_cmpR op_eq (pv 4) pe_str (nomark _)) (pss_one (ps_set (i := 5) sc_l_area_read.nd rfl (Or.inl rfl) (pv 3))) pss_nil)
      (pss_cons (ps_par (i := 6) (j := 7) (by rfl) sc_l_area_read.nd rfl rfl (by decide) rfl rfl (pa_cons (pe_call G_l_read_cell (hr.mono (by decide)) (by rfl) TN3.mg_l_read_cell TN3.F_l_read_cell.kp TN3.b_l_read_cell .nil pass0 (pa_cons (pv 3) (pa_cons (pv 1) pa_nil))) (pa_cons (pe_call G_l_read_cell (hr.mono (by decide)) (by rfl) TN3.mg_l_read_cell TN3.F_l_read_cell.kp TN3.b_l_read_cell .nil pass0 (pa_cons (pv 5) (pa_cons (pv 1) pa_nil))) pa_nil)) (by rfl))
      (pss_cons (ps_if (PW.pt (pw_and (pt_cmpR op_notN1 (pv 6) pe_non (nomark _)) (pw_and1 (pt_cmpR op_notN1 (pv 7) pe_non (nomark _))))) (pss_cons (ps_par (i := 8) (j := 9) (by rfl) sc_l_area_read.nd rfl rfl (by decide) rfl rfl (pa_cons (pe_lst (pa_cons (pe_tup (pa_cons (pe_ix ix_tup (pv 6) pe_int (fun _ _ => rfl)) (pa_cons (pe_ix ix_tup (pv 6) pe_int (fun _ _ => rfl)) pa_nil))) (pa_cons (pe_tup (pa_cons (pe_ix ix_tup (pv 7) pe_int (fun _ _ => rfl)) (pa_cons (pe_ix ix_tup (pv 7) pe_int (fun _ _ => rfl)) pa_nil))) pa_nil))) (pa_cons (pe_lst (pa_cons (pe_tup (pa_cons (pe_ix ix_tup (pv 6) pe_int (fun _ _ => rfl)) (pa_cons (pe_ix ix_tup (pv 6) pe_int (fun _ _ => rfl)) pa_nil))) (pa_cons (pe_tup (pa_cons (pe_ix ix_tup (pv 7) pe_int (fun _ _ => rfl)) (pa_cons (pe_ix ix_tup (pv 7) pe_int (fun _ _ => rfl)) pa_nil))) pa_nil))) pa_nil)) (by rfl))
      (pss_one (ps_ret (pe_call G_l_normal (hr.mono (by decide)) (by rfl) TL.mg_l_normal TL.F_l_normal.kp TL.b_l_normal .nil pass0 (pa_cons (pe_tup (pa_cons (pv 8) (pa_cons (pv 9) (pa_cons pe_non (pa_cons (pv 1) pa_nil))))) pa_nil))))) pss_nil)
      (pss_cons (ps_set (i := 10) sc_l_area_read.nd rfl (Or.inl rfl) (pe_lst (pa_cons (pe_tup (pa_cons pe_int (pa_cons pe_bl pa_nil))) (pa_cons (pe_tup (pa_cons pe_int (pa_cons pe_bl pa_nil))) pa_nil))))
      (pss_cons (ps_set (i := 9) sc_l_area_read.nd rfl (Or.inl rfl) (pe_lst (pa_cons (pe_call G_l_read_column (hr.mono (by decide)) (by rfl) TN3.mg_l_read_column TN3.F_l_read_column.kp TN3.b_l_read_column .nil pass0 (pa_cons (pv 3) pa_nil)) (pa_cons (pe_call G_l_read_column (hr.mono (by decide)) (by rfl) TN3.mg_l_read_column TN3.F_l_read_column.kp TN3.b_l_read_column .nil pass0 (pa_cons (pv 5) pa_nil)) pa_nil))))
      (pss_cons (ps_if (PW.pt (pw_and (pt_cmpR op_ne (pv 4) pe_str (nomark _)) (pw_and1 (pt_cmpR (op_notInD (units65 hr)) pe_non (pv 9) rfl)))) (pss_one (ps_ret (pe_call G_l_normal (hr.mono (by decide)) (by rfl) TL.mg_l_normal TL.F_l_normal.kp TL.b_l_normal .nil pass0 (pa_cons (pe_tup (pa_cons (pv 10) (pa_cons (pv 9) (pa_cons pe_str (pa_cons (pv 1) pa_nil))))) pa_nil)))) pss_nil)
      (pss_cons (ps_set (i := 8) sc_l_area_read.nd rfl (Or.inl rfl) (pe_lst (pa_cons (pe_call G_l_read_row (hr.mono (by decide)) (by rfl) TN3.mg_l_read_row TN3.F_l_read_row.kp TN3.b_l_read_row .nil pass0 (pa_cons (pv 3) pa_nil)) (pa_cons (pe_call G_l_read_row (hr.mono (by decide)) (by rfl) TN3.mg_l_read_row TN3.F_l_read_row.kp TN3.b_l_read_row .nil pass0 (pa_cons (pv 5) pa_nil)) pa_nil))))
      (pss_one (ps_ret (pe_ifExp (PW.pt (pw_and (pt_cmpR op_ne (pv 4) pe_str (nomark _)) (pw_and1 (pt_cmpR (op_notInD (units65 hr)) pe_non (pv 8) rfl)))) (pe_call G_l_normal (hr.mono (by decide)) (by rfl) TL.mg_l_normal TL.F_l_normal.kp TL.b_l_normal .nil pass0 (pa_cons (pe_tup (pa_cons (pv 8) (pa_cons (pv 10) (pa_cons pe_str (pa_cons (pv 1) pa_nil))))) pa_nil)) pe_non))))))))))))), ?_⟩
    have hP : (∃ b sh, partV l = [shV sh, .str (S b)] ∧ (∀ c ∈ b, c < 128) ∧ b.length ≤ 980 ∧ parseR l = parseB b sh) ∨ (partV l = [.non, .non] ∧ parseR l = none) := by
      rw [← parse_areas]
      unfold partV parseRF
      cases q : firstBang l with
      | none => exact .inl ⟨l, none, rfl, la, ll, rfl⟩
      | some p =>
        obtain ⟨a, b⟩ := p
        obtain ⟨e, _⟩ := fbang_some q
        have gl := congrArg List.length e
        rw [List.length_append, List.length_cons] at gl
        by_cases ok : sheetOk a = true
        · exact .inl ⟨b, some a, if_pos ok, fun c h => la c (by rw [e]; exact List.mem_append_right _ (List.mem_cons_of_mem _ h)), by omega, if_pos ok⟩
        · exact .inr ⟨if_neg ok, if_neg ok⟩
    refine ⟨_, rfl, l, rfl, la, by omega, fun t H1 e1 ht => ?_⟩
    rcases hP with ⟨b, sh, hv, ba, bl, hp⟩ | ⟨hv, hp⟩
    · rw [hv] at ht
      rw [hp] at kN kS
      refine ⟨t, _, rfl, st_of ht, rfl, _, _, rfl, _, _, rfl, rfl, ?_⟩
      refine q_when (b := false) (et_is (et_test (ev_op (ev_var rfl) ev_c fun H3 _ Q q => ⟨rfl, q H3 (Ex.refl H3)⟩)) rfl) (fun z => nomatch z) fun _ H2 e2 => ?_
      have e12 : Ex H H2 := Ex.trans e1 e2
      refine q_ptc (K := K) (ev_var rfl) (by omega) fun t2 H3 nt2 e3 ht2 => ?_
      have e13 := e12.trans e3
      have hQ : (∀ c ∈ (cParts b).1, c < 128) ∧ (cParts b).1.length ≤ 980 ∧ (cParts b).2.1.length ≤ 1 ∧ (∀ c ∈ (cParts b).2.2, c < 128) ∧ (cParts b).2.2.length ≤ 980 ∧ ((cParts b).2.1 = [] → (cParts b).1 = b) := by
        unfold cParts
        cases q : firstCol b with
        | none => exact ⟨ba, bl, Nat.zero_le _, fun c h => by simp at h, Nat.zero_le _, fun _ => rfl⟩
        | some p =>
          obtain ⟨x, y⟩ := p
          obtain ⟨g1, g2⟩ := fcol_some q
          have gl := congrArg List.length g1
          rw [List.length_append, List.length_cons] at gl
          exact ⟨fun c h => ba c (by rw [g1]; exact List.mem_append_left _ h), by show x.length ≤ 980; omega, Nat.le_refl 1, fun c h => ba c (by rw [g1]; exact List.mem_append_right _ (List.mem_cons_of_mem _ h)), by show y.length ≤ 980; omega, fun z => by cases z⟩
      have hpb : parseB b sh = if 0 < (cParts b).2.1.length then (match tryW .no (cParts b).1 (cParts b).2.2 sh with | some A => some A | none => match tryW .cols (cParts b).1 (cParts b).2.2 sh with | some A => some A | none => tryW .rows (cParts b).1 (cParts b).2.2 sh) else tryW .no b b sh := rfl
      generalize (cParts b).1 = x at hQ ht2 hpb
      generalize (cParts b).2.1 = bt at hQ ht2 hpb
      generalize (cParts b).2.2 = y0 at hQ ht2 hpb
      obtain ⟨xa, xl, btl, ya0, yl0, hB⟩ := hQ
      obtain ⟨y, hy, ya, yl, hpb⟩ : ∃ y, y = (if bt = [] then x else y0) ∧ (∀ c ∈ y, c < 128) ∧ y.length ≤ 980 ∧ parseB b sh = (match tryW .no x y sh with | some A => some A | none => if bt = [] then none else match tryW .cols x y sh with | some A => some A | none => tryW .rows x y sh) := by
        refine ⟨_, rfl, ?_⟩
        by_cases z : bt = []
        · rw [if_pos z]
          refine ⟨xa, xl, ?_⟩
          rw [hpb, if_neg (by rw [z]; decide), hB z, if_pos z]
          cases tryW .no b b sh <;> rfl
        · rw [if_neg z]
          refine ⟨ya0, yl0, ?_⟩
          rw [hpb, if_pos (List.length_pos_iff.mpr z), if_neg z]
      rw [hpb] at kN kS
      refine ⟨t2, _, rfl, st_of ht2, rfl, _, _, rfl, _, _, rfl, _, _, rfl, rfl, ?_⟩
      have hS : ∀ u : List Nat, decide (V.str (S u) = V.str (Str.ofString "")) = decide (u = []) := fun u => by
        by_cases z : u = []
        · rw [z]; exact (decide_eq_true (show V.str (S []) = V.str (Str.ofString "") from rfl)).trans (decide_eq_true rfl).symm
        · exact (decide_eq_false fun q => z (S_inj (V.str.inj (show V.str (S u) = V.str (S []) from q)))).trans (decide_eq_false z).symm
      refine q_ifQ (i := 5) (b := decide (bt = [])) (R := fun v _ => v = .str (S y)) (v0 := .str (S y0)) (by rw [← hS]; exact et_test (ev_op (ev_var rfl) ev_c (rv_eq rfl))) (fun hb => evq_of (by rw [hy, if_pos (of_decide_eq_true hb)]; exact ev_var rfl)) (fun hb => ⟨rfl, by rw [hy, if_neg (of_decide_eq_false hb)]⟩) mon_eq fun vy H4 e4 hvy => ?_
      subst hvy
      have e14 := e13.trans e4
      refine q_parQ (eaq_two (evq_cell (x := x) (sh := sh) (ev_var rfl) (ev_var rfl) xa (by omega)) (evq_cell (x := y) (sh := sh) (ev_var rfl) (ev_var rfl) ya (by omega)) mon_cel) fun v1 v2 H5 e5 c1 c2 => ?_
      have e15 := e14.trans e5
      have en : ∀ {k : Nat} {u : V} {l2 : List Nat} {σ : L2.St}, σ[k]? = some (some u) → CelR l2 sh u H5 → EvT (tTest (tOp rNotN (tVar k) (tC .non))) σ H5 (!decide (cornR .no l2 = none)) := fun hk hc => by
        rw [← cel_none hc]
        exact et_test (ev_op (ev_var hk) ev_c fun H9 _ Q q => ⟨rfl, q H9 (Ex.refl H9)⟩)
      refine q_when (et_and (en rfl c1) fun _ => en rfl c2) (fun hz H6 e6 => ?_) (fun hz H6 e6 => ?_)
      · simp only [Bool.and_eq_true, Bool.not_eq_true', decide_eq_false_iff_not] at hz
        rcases c1 with ⟨z, _⟩ | ⟨r1, k1, s1, ⟨a1, rfl, h1⟩⟩
        · exact absurd z hz.1
        rcases c2 with ⟨z, _⟩ | ⟨r2, k2, s2, ⟨a2, rfl, h2⟩⟩
        · exact absurd z hz.2
        have e16 := e15.trans e6
        have f1 : ∀ {i : Int} {v : V} {σ : L2.St} {H' : Hp}, Ex H5 H' → σ[6]? = some (some (.ref a1)) → atI (plc r1.1 k1.1 r1.2 k1.2 sh) i = some v → Ev (tOp (rIxT K) (tVar 6) (tC (.int i))) σ H' v := fun e hi h => ev_op (ev_var hi) ev_c (rv_ixT (st_of (e _ _ h1)) h)
        have f2 : ∀ {i : Int} {v : V} {σ : L2.St} {H' : Hp}, Ex H5 H' → σ[7]? = some (some (.ref a2)) → atI (plc r2.1 k2.1 r2.2 k2.2 sh) i = some v → Ev (tOp (rIxT K) (tVar 7) (tC (.int i))) σ H' v := fun e hi h => ev_op (ev_var hi) ev_c (rv_ixT (st_of (e _ _ h2)) h)
        have tol : ∀ {v : V} {H' : Hp} {p q : Int × Bool}, (∃ u a b, v = V.ref u ∧ H' u = some (.lst [a, b]) ∧ TupR [.int p.1, .bl p.2] a H' ∧ TupR [.int q.1, .bl q.2] b H') → RowR (p, q) v H' := fun ⟨u, a, b, hv, hu, t1, t2⟩ => by
          subst hv
          exact row_of hu t1 t2
        refine q_parQ (eaq_two ((evq_lst2 (evq_new (eu_tup (vs := [.int r1.1, .bl r1.2]) (ea_cons (f1 e6 rfl rfl) (ea_cons (f1 e6 rfl rfl) ea_nil)) (by show 2 ≤ 100000; decide))) (evq_new (eu_tup (vs := [.int r2.1, .bl r2.2]) (ea_cons (f2 e6 rfl rfl) (ea_cons (f2 e6 rfl rfl) ea_nil)) (by show 2 ≤ 100000; decide))) mon_tup mon_tup).to (R' := RowR (r1, r2)) fun v H' _ h => tol h)
          ((evq_lst2 (evq_new (eu_tup (vs := [.int k1.1, .bl k1.2]) (ea_cons (f1 e6 rfl rfl) (ea_cons (f1 e6 rfl rfl) ea_nil)) (by show 2 ≤ 100000; decide))) (evq_new (eu_tup (vs := [.int k2.1, .bl k2.2]) (ea_cons (f2 e6 rfl rfl) (ea_cons (f2 e6 rfl rfl) ea_nil)) (by show 2 ≤ 100000; decide))) mon_tup mon_tup).to (R' := RowR (k1, k2)) fun v H' _ h => tol h) mon_row) fun v8 v9 H7 e7 r8 r9 => ?_
        have e17 := e16.trans e7
        refine q_normal (A := ⟨(r1, r2), (k1, k2), .no, sh⟩) (evq_lawT (v8 := v8) (v9 := v9) (ea_cons (ev_var rfl) (ea_cons (ev_var rfl) (ea_cons ev_c (ea_cons (ev_var rfl) ea_nil)))) r8 r9) (hT.ext e17) fun v H8 e8 T8 r => ?_
        exact kS _ (by rw [tryW_some s1 s2]) v H8 ((ExtN.of e17).trans e8) T8 r
      · have e16 := e15.trans e6
        have hn : tryW .no x y sh = none := by
          by_cases z1 : cornR .no x = none
          · exact tryW_no1 z1
          · by_cases z2 : cornR .no y = none
            · exact tryW_no2 z2
            · rw [decide_eq_false z1, decide_eq_false z2] at hz
              cases hz
        rw [hn] at kN kS
        dsimp only at kN kS
        refine q_asgQ (pc2 (a := 1) (x := false) (b := 1) (y := false)) fun va H7 e7 ra => ?_
        have e17 := e16.trans e7
        refine q_asgQ (evq_lst2 (evq_col (x := x) (ev_var rfl) xa (by omega)) (evq_col (x := y) (ev_var rfl) ya (by omega)) mon_col mon_col) fun vc H8 e8 ⟨uc, w1, w2, hvc, huc, d1, d2⟩ => ?_
        subst hvc
        have e18 := e17.trans e8
        have ne : ∀ {σ : L2.St} {H' : Hp}, σ[4]? = some (some (.str (S bt))) → EvT (tTest (tOp rNe (tVar 4) (tC (.str (Str.ofString ""))))) σ H' (!decide (bt = [])) := fun hi => by
          rw [← hS]
          exact et_test (ev_op (ev_var hi) ev_c (rv_ne rfl))
        refine q_when (et_and (ne rfl) fun _ => et_notin (K := K) (i := 9) (u := uc) rfl huc (col_pn d1) (col_pn d2) fun H' e => ⟨col_pn (mon_col _ _ _ e d1), col_pn (mon_col _ _ _ e d2)⟩) (fun hz H9 e9 => ?_) (fun hz H9 e9 => ?_)
        · simp only [Bool.and_eq_true, Bool.not_eq_true', decide_eq_false_iff_not] at hz
          have e19 := e18.trans e9
          rcases d1 with ⟨z, _⟩ | ⟨k1, s1, t1⟩
          · rw [z] at hz; exact absurd hz.2.1 (by decide)
          rcases d2 with ⟨z, _⟩ | ⟨k2, s2, t2'⟩
          · rw [z] at hz; exact absurd hz.2.2 (by decide)
          refine q_normal (A := ⟨((1, false), (1, false)), (k1, k2), .cols, sh⟩) (evq_lawT (v8 := va) (v9 := .ref uc) (ea_cons (ev_var rfl) (ea_cons (ev_var rfl) (ea_cons ev_c (ea_cons (ev_var rfl) ea_nil)))) (mon_row _ _ _ (e8.trans e9) ra) (mon_row _ _ _ e9 (row_of huc t1 t2'))) (hT.ext e19) fun v Ha ea Ta r => ?_
          exact kS _ (by rw [if_neg hz.1, tryW_some s1 s2]) v Ha ((ExtN.of e19).trans ea) Ta r
        · have e19 := e18.trans e9
          have hc : bt = [] ∨ tryW .cols x y sh = none := by
            by_cases z : bt = []
            · exact .inl z
            · refine .inr ?_
              by_cases z1 : cornR .cols x = none
              · exact tryW_no1 z1
              · by_cases z2 : cornR .cols y = none
                · exact tryW_no2 z2
                · obtain ⟨p1, q1⟩ := Option.ne_none_iff_exists'.mp z1
                  obtain ⟨p2, q2⟩ := Option.ne_none_iff_exists'.mp z2
                  rw [decide_eq_false z, q1, q2] at hz
                  cases hz
          refine q_asgQ (evq_lst2 (evq_lin (x := x) (ev_var rfl) xa (by omega)) (evq_lin (x := y) (ev_var rfl) ya (by omega)) mon_lin mon_lin) fun vr Ha ea ⟨ur, w3, w4, hvr, hur, d3, d4⟩ => ?_
          subst hvr
          have e1a := e19.trans ea
          refine q_retIf (et_and (ne rfl) fun _ => et_notin (K := K) (i := 8) (u := ur) rfl hur (lin_pn d3) (lin_pn d4) fun H' e => ⟨lin_pn (mon_lin _ _ _ e d3), lin_pn (mon_lin _ _ _ e d4)⟩) (fun hz2 Hb eb => ?_) (fun hz2 Hb eb => ?_)
          · simp only [Bool.and_eq_true, Bool.not_eq_true', decide_eq_false_iff_not] at hz2
            have e1b := e1a.trans eb
            rcases d3 with ⟨z, _⟩ | ⟨k1, s1, t1⟩
            · rw [z] at hz2; exact absurd hz2.2.1 (by decide)
            rcases d4 with ⟨z, _⟩ | ⟨k2, s2, t2'⟩
            · rw [z] at hz2; exact absurd hz2.2.2 (by decide)
            refine q_normal (A := ⟨(k1, k2), ((1, false), (1, false)), .rows, sh⟩) (evq_lawT (v8 := .ref ur) (v9 := va) (ea_cons (ev_var rfl) (ea_cons (ev_var rfl) (ea_cons ev_c (ea_cons (ev_var rfl) ea_nil)))) (mon_row _ _ _ eb (row_of hur t1 t2')) (mon_row _ _ _ (e8.trans (e9.trans (ea.trans eb))) ra)) (hT.ext e1b) fun v Hc ec Tc r => ?_
            exact kS _ (by rw [if_neg hz2.1, hc.resolve_left hz2.1, tryW_some s1 s2]) v Hc ((ExtN.of e1b).trans ec) Tc r
          · have e1b := e1a.trans eb
            refine q_retQ (R := fun v _ => v = .non) (evq_of ev_c) fun v Hc ec hv => ?_
            subst hv
            refine kN ?_ Hc (ExtN.of (e1b.trans ec)) (hT.ext (e1b.trans ec))
            by_cases z : bt = []
            · rw [if_pos z]
            · rw [if_neg z, hc.resolve_left z]
              by_cases z1 : cornR .rows x = none
              · exact tryW_no1 z1
              · by_cases z2 : cornR .rows y = none
                · exact tryW_no2 z2
                · obtain ⟨p1, q1⟩ := Option.ne_none_iff_exists'.mp z1
                  obtain ⟨p2, q2⟩ := Option.ne_none_iff_exists'.mp z2
                  rw [decide_eq_false z, q1, q2] at hz2
                  cases hz2
    · rw [hv] at ht
      refine ⟨t, _, rfl, st_of ht, rfl, _, _, rfl, _, _, rfl, rfl, ?_⟩
      refine q_when (b := true) (et_is (et_test (ev_op (ev_var rfl) ev_c fun H3 _ Q q => ⟨rfl, q H3 (Ex.refl H3)⟩)) rfl) (fun _ H2 e2 => ?_) fun z => nomatch z
      have e12 : Ex H H2 := Ex.trans e1 e2
      refine q_retQ (R := fun v _ => v = .non) (evq_of ev_c) fun v Hc ec hv => ?_
      subst hv
      exact kN hp Hc (ExtN.of (e12.trans ec)) (hT.ext (e12.trans ec))
end
end K18

set_option Elab.async false
set_option linter.all false
set_option maxRecDepth 100000
set_option maxHeartbeats 4000000
namespace K18
open PySem PySem.Spec PyProof.Rows L2 Pen EV2 Evl TX LamX
/-- the row and column of a corner as its text tells them -/
def cornV (wh : Wh) (r c : Int × Bool) : (Int × Bool) × (Int × Bool) := match wh with
  | .no => (r, c)
  | .cols => ((1, false), c)
  | .rows => (r, (1, false))
theorem let_facts {m : Nat} {u : List Nat} (m1 : 1 ≤ m) (m2 : m ≤ 18278) (hu : Mx (letsF 3 m) u) : u.all let1 = true ∧ 1 ≤ u.length ∧ u.length ≤ 3 ∧ val (u.map up) = m ∧ ¬ u.head? = some 36 := by
  obtain ⟨l1, l2, l3, l4⟩ := lets_ok m1 m2
  have asc : ∀ x ∈ letsF 3 m, x < 128 := fun x hx => by have := l3 x hx; omega
  have ul := hu.len
  have uall : u.all let1 = true := by
    rw [hu.all fun x hx => let1_low x (asc x hx)]
    exact List.all_eq_true.mpr fun x hx => by
      have := l3 x hx
      unfold let1 up
      rw [if_neg (by omega)]
      exact decide_eq_true this
  have uval : val (u.map up) = m := by
    rw [hu.map fun x hx => up_lowA x (asc x hx), show (letsF 3 m).map up = letsF 3 m from by
      have : ∀ k : List Nat, (∀ x ∈ k, 65 ≤ x ∧ x ≤ 90) → k.map up = k := fun k => by
        induction k with
        | nil => intro _; rfl
        | cons a k ih =>
          intro h
          rw [List.map_cons, (up_cap (h a (List.mem_cons_self ..))).1, ih fun x hx => h x (List.mem_cons_of_mem _ hx)]
      exact this _ l3]
    exact l4
  refine ⟨uall, by omega, by omega, uval, fun z => ?_⟩
  cases u with
  | nil => cases z
  | cons a u' =>
    have a36 : a = 36 := Option.some.inj z
    rw [List.all_cons, a36, Bool.and_eq_true] at uall
    exact absurd uall.1 (by decide)
theorem strip_dl {b : Bool} {u : List Nat} (h : ¬ u.head? = some 36) : strip36 (dl b ++ u) = u ∧ decide ((dl b ++ u).head? = some 36) = b := by
  cases b with
  | true => exact ⟨rfl, rfl⟩
  | false => exact ⟨if_neg h, decide_eq_false h⟩
theorem num_no36 (n : Nat) : ¬ (TL.numL n).head? = some 36 := fun z => by
  cases q : TL.numL n with
  | nil => rw [q] at z; cases z
  | cons d v =>
    rw [q] at z
    have := TL.numL_digits n d (by rw [q]; exact List.mem_cons_self ..)
    have : d = 36 := Option.some.inj z
    omega
theorem num_let (n : Nat) : (((TL.numL n).head?).map let1).getD false = false := by
  cases q : TL.numL n with
  | nil => rfl
  | cons d v =>
    have := TL.numL_digits n d (by rw [q]; exact List.mem_cons_self ..)
    show let1 d = false
    unfold let1 up
    rw [if_neg (by omega)]
    exact decide_eq_false (by omega)
theorem corn_read {wh : Wh} {n m : Nat} {fr fc : Bool} {t : List Nat} (n1 : 1 ≤ n) (n2 : n ≤ 1000000) (m1 : 1 ≤ m) (m2 : m ≤ 18278) (h : Mx (cornT wh n m fr fc) t) :
    cornR wh t = some (cornV wh ((n : Int), fr) ((m : Int), fc)) ∧ (wh ≠ .no → cornR .no t = none) ∧ (wh = .rows → cornR .cols t = none) := by
  have z : numVal (TL.numL n) = (n : Int) := by
    unfold numVal
    rw [TL.numL_val]
  cases wh with
  | no =>
    refine ⟨?_, fun z => absurd rfl z, fun z => by cases z⟩
    have e : cornT .no n m fr fc = dl fc ++ (letsF 3 m ++ (dl fr ++ TL.numL n)) := by
      unfold cornT colT rowT dl
      rw [List.append_assoc]
    rw [e] at h
    obtain ⟨d, t2, rfl, hd, h⟩ := h.split
    obtain ⟨u, t3, rfl, hu, h⟩ := h.split
    obtain ⟨r, k, rfl, hr, hk⟩ := h.split
    obtain rfl := hd.fix (dl_fix fc)
    obtain rfl := hr.fix (dl_fix fr)
    obtain rfl := hk.fix (num_fix n)
    have pc := parse_cell (fr := fr) (fc := fc) (sh := none) n1 n2 m1 m2 hu
    unfold parseC at pc
    by_cases q : colText (cellParts (dl fc ++ (u ++ (dl fr ++ TL.numL n)))).1 = true ∧ rowText (cellParts (dl fc ++ (u ++ (dl fr ++ TL.numL n)))).2.2.1 = true
    · rw [if_pos q] at pc
      have pc := Option.some.inj pc
      simp only [Prod.mk.injEq] at pc
      obtain ⟨p1, p2, p3, p4, _⟩ := pc
      refine (if_pos q).trans ?_
      rw [p1, p2, p3, p4]
      rfl
    · rw [if_neg q] at pc
      cases pc
  | cols =>
    obtain ⟨d, u, rfl, hd, hu⟩ := Mx.split (a := dl fc) (b := letsF 3 m) h
    obtain rfl := hd.fix (dl_fix fc)
    obtain ⟨ua, u1, u3, uv, u36⟩ := let_facts m1 m2 hu
    obtain ⟨s1, s2⟩ := strip_dl (b := fc) u36
    have ct : colText u = true := by
      unfold colText
      rw [decide_eq_true u1, decide_eq_true u3, ua]
      rfl
    refine ⟨?_, fun _ => ?_, fun z => by cases z⟩
    · show (if colText (strip36 (dl fc ++ u)) = true then some (((1 : Int), false), (val ((strip36 (dl fc ++ u)).map up), decide ((dl fc ++ u).head? = some 36))) else none) = _
      rw [s1, s2, if_pos ct, uv]
      rfl
    · refine if_neg fun q => ?_
      have e : (cellParts (dl fc ++ u)).2.2.1 = strip36 ((strip36 (dl fc ++ u)).dropWhile let1) := rfl
      have dw : u.dropWhile let1 = [] := by
        have := (tw_app (u := u) (v := []) ua rfl).2
        rwa [List.append_nil] at this
      rw [e, s1, dw] at q
      exact absurd q.2 (by decide)
  | rows =>
    obtain ⟨d, k, rfl, hd, hk⟩ := Mx.split (a := dl fr) (b := TL.numL n) h
    obtain rfl := hd.fix (dl_fix fr)
    obtain rfl := hk.fix (num_fix n)
    obtain ⟨s1, s2⟩ := strip_dl (b := fr) (num_no36 n)
    have tw := tw_app (p := let1) (u := []) (v := TL.numL n) rfl (num_let n)
    refine ⟨?_, fun _ => ?_, fun _ => ?_⟩
    · show (if rowText (strip36 (dl fr ++ TL.numL n)) = true then some ((numVal (strip36 (dl fr ++ TL.numL n)), decide ((dl fr ++ TL.numL n).head? = some 36)), ((1 : Int), false)) else none) = _
      rw [s1, s2, if_pos (num_row n1 n2), z]
      rfl
    · refine if_neg fun q => ?_
      have e : (cellParts (dl fr ++ TL.numL n)).1 = (strip36 (dl fr ++ TL.numL n)).takeWhile let1 := rfl
      rw [e, s1] at q
      have t1 : (TL.numL n).takeWhile let1 = [] := tw.1
      rw [t1] at q
      exact absurd q.1 (by decide)
    · refine if_neg fun q => ?_
      rw [s1] at q
      unfold colText at q
      simp only [Bool.and_eq_true, decide_eq_true_eq] at q
      have hl := num_let n
      cases g : TL.numL n with
      | nil => exact absurd g (TL.numL_ne n)
      | cons d v =>
        rw [g] at hl q
        rw [List.all_cons, Bool.and_eq_true] at q
        have h1 : let1 d = false := hl
        rw [h1] at q
        exact absurd q.2.1 (by decide)
end K18

set_option Elab.async false
set_option linter.all false
set_option maxRecDepth 100000
set_option maxHeartbeats 4000000
namespace K18
open PySem PySem.Spec PyProof.Rows L2 Pen EV2 Evl TX LamX
theorem ordP_id (p q : Int × Bool) : ordP (ordP p q).1 (ordP p q).2 = ordP p q := by
  unfold ordP
  by_cases e : p.1 = q.1
  · rw [if_pos e]
    dsimp only
    rw [if_pos rfl]
    cases p.2 <;> cases q.2 <;> rfl
  · rw [if_neg e]
    by_cases l : p.1 < q.1
    · rw [if_pos l]
      dsimp only
      rw [if_neg e, if_pos l]
    · rw [if_neg l]
      dsimp only
      rw [if_neg (fun z => e z.symm), if_pos (by omega)]
theorem norm_norm (A : Ar) : A.norm.norm = A.norm := by
  obtain ⟨ro, co, wh, sh⟩ := A
  have h1 : Ar.nRo (Ar.norm ⟨ro, co, wh, sh⟩) = Ar.nRo ⟨ro, co, wh, sh⟩ := by
    cases wh
    · exact ordP_id _ _
    · rfl
    · exact ordP_id _ _
  have h2 : Ar.nCo (Ar.norm ⟨ro, co, wh, sh⟩) = Ar.nCo ⟨ro, co, wh, sh⟩ := by
    cases wh
    · exact ordP_id _ _
    · exact ordP_id _ _
    · rfl
  unfold Ar.norm at h1 h2 ⊢
  rw [h1, h2]
theorem norm_corn (wh : Wh) (r1 c1 r2 c2 : Int × Bool) (sh : Option (List Nat)) : Ar.norm ⟨((cornV wh r1 c1).1, (cornV wh r2 c2).1), ((cornV wh r1 c1).2, (cornV wh r2 c2).2), wh, sh⟩ = Ar.norm ⟨(r1, r2), (c1, c2), wh, sh⟩ := by
  cases wh <;> rfl
theorem corn_readG {wh : Wh} {r c : Int × Bool} {t : List Nat} (g : inG r c) (h : Mx (cT wh r c) t) : cornR wh t = some (cornV wh r c) ∧ (wh ≠ .no → cornR .no t = none) ∧ (wh = .rows → cornR .cols t = none) := by
  obtain ⟨⟨r1, r2⟩, c1, c2⟩ := g
  have er : ((r.1.toNat : Nat) : Int) = r.1 := by omega
  have ec : ((c.1.toNat : Nat) : Int) = c.1 := by omega
  have z := corn_read (wh := wh) (n := r.1.toNat) (m := c.1.toNat) (fr := r.2) (fc := c.2) (t := t) (by omega) (by omega) (by omega) (by omega) h
  rw [er, ec] at z
  exact z
theorem try_read {wh : Wh} {r1 c1 r2 c2 : Int × Bool} {t1 t2 : List Nat} {sh : Option (List Nat)} (g1 : inG r1 c1) (g2 : inG r2 c2) (h1 : Mx (cT wh r1 c1) t1) (h2 : Mx (cT wh r2 c2) t2) :
    (match tryW .no t1 t2 sh with | some A => some A | none => match tryW .cols t1 t2 sh with | some A => some A | none => tryW .rows t1 t2 sh) = some (Ar.norm ⟨(r1, r2), (c1, c2), wh, sh⟩) := by
  obtain ⟨a1, b1, d1⟩ := corn_readG g1 h1
  obtain ⟨a2, b2, d2⟩ := corn_readG g2 h2
  have t := tryW_some (wh := wh) (sh := sh) (r1 := (cornV wh r1 c1).1) (c1 := (cornV wh r1 c1).2) (r2 := (cornV wh r2 c2).1) (c2 := (cornV wh r2 c2).2) a1 a2
  rw [norm_corn] at t
  cases wh with
  | no => rw [t]
  | cols => rw [tryW_no1 (b1 (by decide)), t]
  | rows => rw [tryW_no1 (b1 (by decide)), tryW_no1 (d1 rfl), t]
theorem Mx_no {l t : List Nat} {c : Nat} (h : Mx l t) (hc : ∀ x ∈ l, x ≠ c ∧ low x ≠ c) : c ∉ t := by
  induction h with
  | nil => exact fun z => by cases z
  | cons x y q _ ih =>
    intro z
    have hx := hc x (List.mem_cons_self ..)
    rcases List.mem_cons.mp z with z | z
    · rcases q with q | q
      · exact hx.1 (by rw [← q]; exact z.symm)
      · exact hx.2 (by rw [← q]; exact z.symm)
    · exact ih (fun x hx => hc x (List.mem_cons_of_mem _ hx)) z
theorem cT_Mx {wh : Wh} {r c : Int × Bool} {t : List Nat} (g : inG r c) (h : Mx (cT wh r c) t) : 58 ∉ t ∧ 33 ∉ t := by
  have hc := cornT_chars (wh := wh) (n := r.1.toNat) (m := c.1.toNat) (fr := r.2) (fc := c.2) (by have := g.2; omega) (by have := g.2; omega)
  have hl : ∀ x, (x = 36 ∨ (48 ≤ x ∧ x ≤ 57) ∨ (65 ≤ x ∧ x ≤ 90)) → x ≠ 58 ∧ low x ≠ 58 ∧ x ≠ 33 ∧ low x ≠ 33 := fun x hx => by
    have hlt : x < 128 := by omega
    have : ∀ x, x < 128 → (x = 36 ∨ (48 ≤ x ∧ x ≤ 57) ∨ (65 ≤ x ∧ x ≤ 90)) → x ≠ 58 ∧ low x ≠ 58 ∧ x ≠ 33 ∧ low x ≠ 33 := by decide +kernel
    exact this x hlt hx
  exact ⟨Mx_no h fun x hx => ⟨(hl x (hc x hx)).1, (hl x (hc x hx)).2.1⟩, Mx_no h fun x hx => ⟨(hl x (hc x hx)).2.2.1, (hl x (hc x hx)).2.2.2⟩⟩
/-- the two corners of a text -/
theorem parseB_two {wh : Wh} {r1 c1 r2 c2 : Int × Bool} {t1 t2 : List Nat} {sh : Option (List Nat)} (g1 : inG r1 c1) (g2 : inG r2 c2) (h1 : Mx (cT wh r1 c1) t1) (h2 : Mx (cT wh r2 c2) t2) : parseB (t1 ++ 58 :: t2) sh = some (Ar.norm ⟨(r1, r2), (c1, c2), wh, sh⟩) := by
  unfold parseB
  rw [cParts_app (cT_Mx g1 h1).1]
  exact (if_pos (Nat.zero_lt_one)).trans (try_read g1 g2 h1 h2)
theorem parseR_no {t : List Nat} (h : 33 ∉ t) : parseR t = parseB t none := by
  rw [parseR_M]
  unfold parseRM
  rw [lastBang_no h]
theorem parseR_sh {l t : List Nat} (h : 33 ∉ t) (g : sheetOk l = true) : parseR (l ++ 33 :: t) = parseB t (some l) := by
  rw [parseR_M]
  unfold parseRM
  rw [bang_eq rfl h]
  exact if_pos g
theorem parseR_shT {sh : Option (List Nat)} {t : List Nat} (h : 33 ∉ t) (g : shGood sh = true) : parseR (shT sh ++ t) = parseB t sh := by
  cases sh with
  | none => exact parseR_no h
  | some l =>
    show parseR ((l ++ [33]) ++ t) = _
    rw [List.append_assoc]
    exact parseR_sh h g
/-- an area's own text -/
theorem parse_arT {A : Ar} (on : A.On) : parseR (arT A) = some A.norm := by
  obtain ⟨⟨r1, r2⟩, ⟨c1, c2⟩, wh, sh⟩ := A
  obtain ⟨g1, g2, so, sg⟩ := on
  have n1 := cT_Mx g1 (Mx.refl (cT wh r1 c1))
  have n2 := cT_Mx g2 (Mx.refl (cT wh r2 c2))
  unfold arT
  by_cases one : isOne ⟨(r1, r2), (c1, c2), wh, sh⟩ = true
  · rw [if_pos one]
    unfold isOne at one
    simp only [Bool.and_eq_true, decide_eq_true_eq] at one
    obtain ⟨hw, ht⟩ := one
    subst hw
    rw [parseR_shT n1.2 sg]
    unfold parseB
    rw [cParts_no n1.1]
    obtain ⟨a1, _⟩ := corn_readG g1 (Mx.refl (cT .no r1 c1))
    obtain ⟨a2, _⟩ := corn_readG g2 (Mx.refl (cT .no r2 c2))
    have e : (r1, c1) = (r2, c2) := by
      have ht : cT .no r1 c1 = cT .no r2 c2 := ht
      rw [ht, a2] at a1
      exact (Option.some.inj a1).symm
    cases e
    exact (if_neg (Nat.lt_irrefl 0)).trans (tryW_some (r1 := r1) (c1 := c1) (r2 := r1) (c2 := c1) a1 a1)
  · rw [if_neg one]
    have n : 33 ∉ corsT ⟨(r1, r2), (c1, c2), wh, sh⟩ := fun h => by
      rcases List.mem_append.mp h with h | h
      · exact n1.2 h
      · rcases List.mem_cons.mp h with h | h
        · exact absurd h (by decide)
        · exact n2.2 h
    rw [parseR_shT n sg]
    exact parseB_two g1 g2 (Mx.refl _) (Mx.refl _)
/-- a text with both corners, some letters made small -/
theorem parse_long {r1 c1 r2 c2 : Int × Bool} {wh : Wh} {sh : Option (List Nat)} {t : List Nat} (g1 : inG r1 c1) (g2 : inG r2 c2) (so : shOk sh) (sg2 : shGood sh = true) (h : Mx (shT sh ++ (cT wh r1 c1 ++ 58 :: cT wh r2 c2)) t) :
    parseR t = some (Ar.norm ⟨(r1, r2), (c1, c2), wh, sh.map fun l => t.take l.length⟩) ∧ shOk (sh.map fun l => t.take l.length) ∧ shGood (sh.map fun l => t.take l.length) = true ∧ alike sh (sh.map fun l => t.take l.length) = true := by
  obtain ⟨s, t1, rfl, hs, h⟩ := h.split
  obtain ⟨x, t2, rfl, hx, h⟩ := h.split
  obtain ⟨k, y, rfl, hk, hy⟩ := Mx.split (a := [58]) h
  obtain rfl := hk.fix (by decide)
  have n : 33 ∉ x ++ ([58] ++ y) := fun h => by
    rcases List.mem_append.mp h with h | h
    · exact (cT_Mx g1 hx).2 h
    · rcases List.mem_cons.mp h with h | h
      · exact absurd h (by decide)
      · exact (cT_Mx g2 hy).2 h
  have pb := fun sh => parseB_two (sh := sh) g1 g2 hx hy
  cases sh with
  | none =>
    cases hs
    rw [List.nil_append, parseR_no n]
    exact ⟨pb none, True.intro, rfl, rfl⟩
  | some l =>
    obtain ⟨l', z, rfl, hl, hz⟩ := Mx.split (a := l) (b := [33]) hs
    obtain rfl := hz.fix (by decide)
    have ll := hl.len
    have asc := so.1
    have tk : ((l' ++ [33]) ++ (x ++ ([58] ++ y))).take l.length = l' := by
      rw [List.append_assoc, ← ll, List.take_left]
    have ok : sheetOk l' = true := by
      have g : sheetOk l = true := sg2
      unfold sheetOk at g ⊢
      rw [ll, hl.all fun x hx => aln1_low x (asc x hx), head_Mx hl fun x hx => let1_low x (asc x hx)]
      exact g
    have z : (some l).map (fun l => ((l' ++ [33]) ++ (x ++ ([58] ++ y))).take l.length) = some l' := congrArg some tk
    rw [z]
    refine ⟨?_, ⟨hl.asc asc, by rw [ll]; exact so.2⟩, ok, ?_⟩
    · rw [List.append_assoc]
      exact (parseR_sh n ok).trans (pb (some l'))
    · show decide (l.map low = l'.map low) = true
      rw [hl.map fun x hx => low_low x (asc x hx)]
      exact decide_eq_true rfl
end K18

set_option Elab.async false
set_option linter.all false
set_option maxRecDepth 100000
set_option maxHeartbeats 4000000
namespace K18
open PySem PySem.Spec PyProof.Rows L2 Pen EV2 Evl TX LamX
theorem ordP_comm (p q : Int × Bool) : ordP q p = ordP p q := by
  unfold ordP
  by_cases e : p.1 = q.1
  · rw [if_pos e, if_pos e.symm, e, Bool.or_comm, Bool.and_comm]
  · rw [if_neg e, if_neg (fun z => e z.symm)]
    by_cases h : p.1 < q.1
    · rw [if_pos h, if_neg (by omega)]
    · rw [if_neg h, if_pos (by omega)]
theorem norm_swap (A : Ar) : (Ar.norm ⟨(A.ro.2, A.ro.1), (A.co.1, A.co.2), A.wh, A.sh⟩) = A.norm := by
  unfold Ar.norm Ar.nRo Ar.nCo
  dsimp only
  rw [ordP_comm]
theorem alike_comm : ∀ a b : Option (List Nat), alike a b = alike b a
  | none, none => rfl
  | none, some _ => rfl
  | some _, none => rfl
  | some a, some b => decide_eq_decide.mpr eq_comm
theorem shT_small {sh : Option (List Nat)} (so : shOk sh) (sg2 : shGood sh = true) : (shT sh).length ≤ 13 ∧ ∀ x ∈ shT sh, x < 128 := by
  cases sh with
  | none => exact ⟨Nat.zero_le _, fun x h => by cases h⟩
  | some l =>
    have ga : sheetOk l = true := sg2
    unfold sheetOk at ga
    simp only [Bool.and_eq_true, decide_eq_true_eq] at ga
    refine ⟨?_, fun x h => ?_⟩
    · show (l ++ [33]).length ≤ 13
      rw [List.length_append]
      have := ga.1.1.2
      show l.length + 1 ≤ 13
      omega
    · rcases List.mem_append.mp h with h | h
      · exact so.1 x h
      · rw [List.mem_singleton.mp h]; decide
theorem cT_asc {wh : Wh} {r c : Int × Bool} (g : inG r c) : ∀ x ∈ cT wh r c, x < 128 := fun x h => by
  have := cornT_chars (by have := g.2; omega) (by have := g.2; omega) x h
  omega
theorem arT_small {A : Ar} (on : A.On) : (arT A).length ≤ 980 ∧ ∀ x ∈ arT A, x < 128 := by
  obtain ⟨s1, s2⟩ := shT_small on.so on.sg
  have z1 := cT_len (wh := A.wh) on.a
  have z2 := cT_len (wh := A.wh) on.b
  unfold arT corsT
  split
  · refine ⟨by rw [List.length_append]; omega, fun x h => ?_⟩
    rcases List.mem_append.mp h with h | h
    · exact s2 x h
    · exact cT_asc on.a x h
  · refine ⟨by rw [List.length_append, List.length_append, List.length_cons]; omega, fun x h => ?_⟩
    rcases List.mem_append.mp h with h | h
    · exact s2 x h
    · rcases List.mem_append.mp h with h | h
      · exact cT_asc on.a x h
      · rcases List.mem_cons.mp h with h | h
        · rw [h]; decide
        · exact cT_asc on.b x h
structure TxtE (K : PySem.W.Frag) (p : AdR) (NR : Addr) : Prop where
  eqc : EqC K p.CA NR p.m_eq
  hB : ∃ yB : Option Value, typeLookup (.type "object") ("__eq__" : Str) = pure yB
def spTR (TT : List (Addr × Str)) : Sp := fun vs H Q _ => ∃ (q c t : Addr) (cs : List Int) (i r : Int) (A : Ar), vs = [.ref q, .ref t] ∧ PenAt H q c cs i r ∧ i < 2 ^ 36 ∧ LawAt H t A ∧ LOk A ∧ Tabs TT H ∧
  ∀ (i' r' : Int) (H' : Hp), i ≤ i' → i' ≤ i + 1100 → KA H H' → Tabs TT H' → PenAt H' q c cs i' r' → Q (.bl true) H'
section
variable {P : Program} {w : World} {K : PySem.W.Frag} {mg : Str → Option Value} {base : Heap} {ph : AdL} {pc : Ads} {pg : AdG} {pa : AdC} {D : Addr} {p : AdR} {px : AdX} {mv mc mr ma : List Value} {pn6 : AdN6} {pn : AdN} {pl : AdW} {py : AdY} {NR : Addr} {TT : List (Addr × Str)}
theorem ok_l_text_right (TC : TxtC K mg pc) (TG : TxtG K mg pg) (TA : TxtA6 K mg pc.S pa) (Z : TxtB K mg pa D) (TR : TxtR K mg p) (MK : TxtK K pa p mv) (MX : TxtD K pa p mc mr ma) (ME : TxtE K p NR) (TN6 : TxtN6 K mg pn6) (TN : TxtN K mg pn) (TH : TxtH K mg ph) (TL : TxtL K mg pl) (TX : TxtX K mg px) (TY : TxtY K mg py) (kAA : PySem.W.kitOne K (.ref p.CA) (.ref p.CA) = some true)
    (G_l_normal : FnOk P w K mg base CX0 6 pl.f_normal pl.d_normal P_l_normal (spNormal TT)) : FnOk P w K mg base CX0 14 py.f_l_text_right py.d_l_text_right P_l_text_right (spTR TT) := by
  have G_l_area_made : FnOk P w K mg base (L2.CX P w) 10 pl.f_area_made pl.d_area_made P_l_area_made (spAreaMade p.CA pa.C) := ok_l_area_made TC TG TA Z TR MK TN6 TL
  have G_l_is_area : FnOk P w K mg base CX0 3 pl.f_is_area pl.d_is_area P_l_is_area (spIsArea p.CA pa.C) := ok_l_is_area TC TA Z TR TN6 TL
  have G_Area_eq : FnOk P w K mg base CX0 8 p.m_eq p.e_eq P_Area___eq__ (spAreaEq p.CA pa.C) := ok_Area_eq TC TG TA Z TR MK
  have G_area_text : FnOk P w K mg base (L2.CX P w) 8 px.f_area_text px.d_area_text P_area_text (spAreaT K p.CA pa.C pc.CB) := ok_area_text TC TG TA Z TR TX
  have G_read_area : FnOk P w K mg base (L2.CX P w) 10 px.f_read_area px.d_read_area P_read_area (spReadArea K p.CA pa.C pc.CB pc.CN) := ok_read_area TC TG TA Z TR MK TX MX
  have G_l_area_text : FnOk P w K mg base CX0 5 py.f_l_area_text py.d_l_area_text P_l_area_text spATL := ok_l_area_text TH TN TY
  have G_l_corner_text : FnOk P w K mg base CX0 4 py.f_l_corner_text py.d_l_corner_text P_l_corner_text spCTL := ok_l_corner_text TH TN TY
  have G_l_sheet_text : FnOk P w K mg base CX0 1 pn.f_sheet_text pn.d_sheet_text P_l_sheet_text spShT := ok_sheet_text TN
  have G_l_mixed_case : FnOk P w K mg base CX0 2 ph.f_mixed_case ph.d_mixed_case P_l_mixed_case spMixA := ok_mixed TH
  obtain ⟨yB, hyB⟩ := ME.hB
  refine TY.F_l_text_right.ok sc_l_text_right (fun vs H Q E h => ?_) (fun cdv A outer s H vs Q E hr h => ?_)
  · obtain ⟨q, c, t, cs, i, r, A, rfl, _⟩ := h
    rfl
  · obtain ⟨q, c0, t, cs, i, r, A, rfl, D0, hi, hA, oA, hT, k⟩ := h
    refine ⟨_, (pss_cons (ps_par (i := 2) (j := 3) (by rfl) sc_l_text_right.nd rfl rfl (by decide) rfl rfl (pa_cons (pe_call G_l_area_made (hr.mono (by decide)) (by rfl) TL.mg_l_area_made TL.F_l_area_made.kp TL.b_l_area_made .nil (passF (P := P) (w := w)) (pa_cons (pv 1) pa_nil)) (pa_cons (pe_call G_l_normal (hr.mono (by decide)) (by rfl) TL.mg_l_normal TL.F_l_normal.kp TL.b_l_normal .nil pass0 (pa_cons (pv 1) pa_nil)) pa_nil)) (by rfl))
      (pss_cons (ps_set (i := 4) sc_l_text_right.nd rfl (Or.inl rfl) (pe_call G_l_area_text (hr.mono (by decide)) (by rfl) TY.mg_l_area_text TY.F_l_area_text.kp TY.b_l_area_text .nil pass0 (pa_cons (pv 3) pa_nil)))
      (pss_cons (ps_if (PW.pt (pw_or (pt_cmpR op_ne (pe_call G_area_text (hr.mono (by decide)) (by rfl) TX.mg_area_text TX.F_area_text.kp TX.b_area_text .nil (passF (P := P) (w := w)) (pa_cons (pv 2) pa_nil)) (pv 4) (nomark _)) (pw_or (pt_not (pt_val (pe_call G_l_is_area (hr.mono (by decide)) (by rfl) TL.mg_l_is_area TL.F_l_is_area.kp TL.b_l_is_area .nil pass0 (pa_cons (pe_call G_read_area (hr.mono (by decide)) (by rfl) TX.mg_read_area TX.F_read_area.kp TX.b_read_area .nil (passF (P := P) (w := w)) (pa_cons (pv 4) pa_nil)) (pa_cons (pv 3) pa_nil))))) (pw_or1 (pt_cmpR (op_neO G_Area_eq ME.eqc hyB TR.b_eq pass0 (hr.mono (by decide))) (pe_call G_read_area (hr.mono (by decide)) (by rfl) TX.mg_read_area TX.F_read_area.kp TX.b_read_area .nil (passF (P := P) (w := w)) (pa_cons (pv 4) pa_nil)) (pv 2) (nomark _)))))) (pss_one (ps_ret pe_bl)) pss_nil)
      (pss_cons (ps_asg (pv 1) (pg_tup (by rfl) (pgs_cons (pg_name (i := 5) sc_l_text_right.nd rfl (Or.inl rfl)) (pgs_cons (pg_name (i := 6) sc_l_text_right.nd rfl (Or.inl rfl)) (pgs_cons (pg_name (i := 7) sc_l_text_right.nd rfl (Or.inl rfl)) (pgs_cons (pg_name (i := 8) sc_l_text_right.nd rfl (Or.inl rfl)) pgs_nil))))))
      (pss_cons (ps_set (i := 9) sc_l_text_right.nd rfl (Or.inl rfl) (pe_tup (pa_cons (pe_lst (pa_cons (pe_ix ix_list (pv 5) pe_int (fun _ _ => rfl)) (pa_cons (pe_ix ix_list (pv 5) pe_int (fun _ _ => rfl)) pa_nil))) (pa_cons (pv 6) (pa_cons (pv 7) (pa_cons (pv 8) pa_nil))))))
      (pss_cons (ps_set (i := 10) sc_l_text_right.nd rfl (Or.inl rfl) (pe_op op_add_str (pe_op op_add_str (pe_op op_add_str (pe_call G_l_sheet_text (hr.mono (by decide)) (by rfl) TN.mg_l_sheet_text TN.F_l_sheet_text.kp TN.b_l_sheet_text .nil pass0 (pa_cons (pv 8) pa_nil)) (pe_call G_l_corner_text (hr.mono (by decide)) (by rfl) TY.mg_l_corner_text TY.F_l_corner_text.kp TY.b_l_corner_text .nil pass0 (pa_cons (pv 9) (pa_cons pe_int pa_nil)))) pe_str) (pe_call G_l_corner_text (hr.mono (by decide)) (by rfl) TY.mg_l_corner_text TY.F_l_corner_text.kp TY.b_l_corner_text .nil pass0 (pa_cons (pv 9) (pa_cons pe_int pa_nil)))))
      (pss_cons (ps_set (i := 11) sc_l_text_right.nd rfl (Or.inl rfl) (pe_call G_l_mixed_case (hr.mono (by decide)) (by rfl) TH.mg_l_mixed_case TH.F_l_mixed_case.kp TH.b_l_mixed_case .nil pass0 (pa_cons (pv 0) (pa_cons (pv 10) pa_nil))))
      (pss_cons (ps_set (i := 12) sc_l_text_right.nd rfl (Or.inl rfl) (pe_call G_read_area (hr.mono (by decide)) (by rfl) TX.mg_read_area TX.F_read_area.kp TX.b_read_area .nil (passF (P := P) (w := w)) (pa_cons (pv 11) pa_nil)))
      (pss_cons (ps_set (i := 13) sc_l_text_right.nd rfl (Or.inl rfl) (pe_ifExp (pt_cmpR op_isN1 (pv 8) pe_non (nomark _)) pe_non (pe_slice sl_str (pv 11) po_none (po_some (pe_callB (id := "len") call_len (by rfl) TC.n_len (by decide +kernel) (pa_cons (pv 8) pa_nil))))))
      (pss_one (ps_ret (pe_and (pe_call G_l_is_area (hr.mono (by decide)) (by rfl) TL.mg_l_is_area TL.F_l_is_area.kp TL.b_l_is_area .nil pass0 (pa_cons (pv 12) (pa_cons (pe_op op_catA (pe_slice sl_tupA (pv 3) po_none (po_some pe_int)) (pe_tup (pa_cons (pv 13) pa_nil))) pa_nil))) (pe_one (pe_cmpR (op_eqO G_Area_eq MK.hsR MK.hfR TR.b_eq pass0 (hr.mono (by decide))) (pv 12) (pv 2) (nomark _))))))))))))))), ?_⟩
    have nN := oA.on.norm
    refine (evq_call (R := AreaR p.CA pa.C A.norm) (eaq_of (vs := [.ref t]) (ea_cons (ev_var rfl) ea_nil)) fun vs H2 e2 hv Q kq => by
      subst hv
      exact ⟨t, A, rfl, hA.ex e2, oA.on, fun v H3 e3 r => kq v H3 e3 r⟩) H (Ex.refl H) _ fun v2 H1 e1 ⟨am, hv2, hm1⟩ => ?_
    subst hv2
    refine ⟨_, rfl, t, A, rfl, hA.ex e1, hT.ext e1, fun v3 H2 e2 T2 ⟨n, hv3, hn2⟩ => ⟨_, _, rfl, ?_⟩⟩
    subst hv3
    dsimp only
    have k02 := (ka_ex e1).trans (ka_extN e2)
    have D2 := pen_extN (D0.keep e1) e2
    have hm2 := hm1.ka (ka_extN e2)
    have hA2 := hA.ka k02
    have pN : parseR (arT A.norm) = some A.norm := by rw [parse_arT nN.on, norm_norm]
    have zT : (arT A.norm).length ≤ 980 ∧ ∀ x ∈ arT A.norm, x < 128 := arT_small nN.on
    refine q_asg (v := .str (S (arT A.norm))) (ev_call (ea_cons (ev_var rfl) ea_nil) fun H3 e3 Q q E => ⟨n, A.norm, rfl, hn2.ex e3, nN.on, fun H' s => q H' s⟩) fun H3 e3 => ?_
    have hm3 := hm2.ex e3
    have hn3 := hn2.ex e3
    -- what read_area tells of it
    have rd : ∀ {σ : L2.St} {H' : Hp} {j : Nat} {l : List Nat} {B : Ar}, σ[j]? = some (some (.str (S l))) → l.length ≤ 980 → (∀ x ∈ l, x < 128) → parseR l = some B → EvQ (tCall (spReadArea K p.CA pa.C pc.CB pc.CN) [] E0 (tCons (tVar j) tNil)) σ H' (AreaR p.CA pa.C B) := fun {σ H' j l B} hj hl ha hp => evq_call (eaq_of (ea_cons (ev_var hj) ea_nil)) fun vs H2 e2 hv Q kq => by
      subst hv
      refine ⟨_, rfl, .inl ⟨l, rfl, ha, hl, fun B' hB a H3 e3 hA => ?_, fun hn => ?_⟩⟩
      · rw [hp] at hB
        cases hB
        exact kq _ H3 e3 ⟨a, rfl, hA⟩
      · rw [hp] at hn
        cases hn
    have at1 : Ev (tCall (spAreaT K p.CA pa.C pc.CB) [] E0 (tCons (tVar 2) tNil)) [some (.ref q), some (.ref t), some (.ref am), some (.ref n), some (.str (S (arT A.norm))), none, none, none, none, none, none, none, none, none] H3 (.str (S (arT A.norm))) :=
      ev_call (ea_cons (ev_var rfl) ea_nil) fun H4 e4 Q q E => ⟨.ref am, .ref p.CA, true, rfl, fun H5 e5 => area_ty TR ((hm3.ex e4).ex e5), kAA, fun _ => ⟨am, A.norm, rfl, hm3.ex e4, nN.on, fun H' s => q H' s⟩, fun z => nomatch z⟩
    have ie : Ev (tCall (spIsArea p.CA pa.C) [] E0 (tCons (tCall (spReadArea K p.CA pa.C pc.CB pc.CN) [] E0 (tCons (tVar 4) tNil)) (tCons (tVar 3) tNil))) [some (.ref q), some (.ref t), some (.ref am), some (.ref n), some (.str (S (arT A.norm))), none, none, none, none, none, none, none, none, none] H3 (.bl true) := by
      refine ev_of_q (evq_call (eaq_two (rd rfl zT.1 zT.2 pN) (evq_of (ev_var (v := .ref n) rfl)) mon_area) fun vs H2 e2 ⟨x, y, hvs, ⟨a, hx, ha⟩, hy⟩ Q kq => ?_)
      subst hvs hy hx
      exact ⟨a, n, A.norm, rfl, ha, hn3.ex e2, nN.on.so, fun H3 s => kq _ H3 s rfl⟩
    have eq1 : eqAr A.norm A.norm = true := by
      unfold eqAr
      rw [alike_refl, decide_eq_true ⟨rfl, rfl, rfl⟩]
      rfl
    have ne2 : Ev (tOp (rNeO p.CA (spAreaEq p.CA pa.C) E0) (tCall (spReadArea K p.CA pa.C pc.CB pc.CN) [] E0 (tCons (tVar 4) tNil)) (tVar 2)) [some (.ref q), some (.ref t), some (.ref am), some (.ref n), some (.str (S (arT A.norm))), none, none, none, none, none, none, none, none, none] H3 (.bl false) := fun H7 e7 Q kq => by
      refine (rd rfl zT.1 zT.2 pN) H7 e7 _ fun v H8 e8 ⟨b, hv, hb⟩ => ⟨_, rfl, ?_⟩
      subst hv
      have hm8 := hm3.ex (e7.trans e8)
      have hm8' := hm8
      have hb' := hb
      obtain ⟨dA, x1, x2, z0, _, _⟩ := hb'
      obtain ⟨dB, y1, y2, z1, _, _⟩ := hm8'
      refine ⟨b, am, dA, dB, _, _, rfl, rfl, z0, z1, b, am, _, _, rfl, hb, hm8, nN.on.so, nN.on.so, fun H9 s => ⟨_, rfl, ?_⟩⟩
      rw [eq1]
      exact kq H9 (e8.trans s)
    have neS : EvT (tTest (tOp rNe (tCall (spAreaT K p.CA pa.C pc.CB) [] E0 (tCons (tVar 2) tNil)) (tVar 4))) [some (.ref q), some (.ref t), some (.ref am), some (.ref n), some (.str (S (arT A.norm))), none, none, none, none, none, none, none, none, none] H3 false := by
      have z := ev_op at1 (ev_var (i := 4) rfl) (rv_ne (H := H3) rfl)
      rw [decide_eq_true rfl] at z
      exact et_test z
    refine q_when (b := false) (et_is (et_or neS fun _ => et_or (et_not (et_B ie)) fun _ => et_test ne2) rfl) (fun z => nomatch z) fun _ H4 e4 => ?_
    have e24 := e3.trans e4
    have hA4 := hA2.ex e24
    have hA4' := hA4
    obtain ⟨l, m, ht, hl, hm⟩ := hA4'
    refine ⟨_, rfl, t, _, rfl, st_of ht, rfl, _, _, rfl, _, _, rfl, _, _, rfl, _, _, rfl, rfl, ?_⟩
    dsimp only
    show tSeq _ _ _ [some (.ref q), some (.ref t), some (.ref am), some (.ref n), some (.str (S (arT A.norm))), some (.ref l), some (.ref m), some (whV A.wh), some (shV A.sh), none, none, none, none, none] H4
    have hl' := hl
    obtain ⟨_, x1, y1, el, hll, hx1, hy1⟩ := hl'
    cases el
    have sw : EvQ (tLst (tCons (tOp (rIxL K) (tVar 5) (tC (.int 1))) (tCons (tOp (rIxL K) (tVar 5) (tC (.int 0))) tNil))) [some (.ref q), some (.ref t), some (.ref am), some (.ref n), some (.str (S (arT A.norm))), some (.ref l), some (.ref m), some (whV A.wh), some (shV A.sh), none, none, none, none, none] H4 (RowR (A.ro.2, A.ro.1)) := by
      refine (evq_lst (eaq_of (vs := [.ref y1, .ref x1]) (ea_cons (ev_op (ev_var (v := .ref l) rfl) ev_c (rv_ixL (sq_of hll) rfl)) (ea_cons (ev_op (ev_var (v := .ref l) rfl) ev_c (rv_ixL (sq_of hll) rfl)) ea_nil))) (fun vs H' h => by rw [h]; show 2 ≤ 100000; decide) (fun _ _ _ _ h => h)).to fun v H' e ⟨u, vs, hv, hu, hvs⟩ => ?_
      subst hvs
      exact ⟨u, y1, x1, hv, hu, e _ _ hy1, e _ _ hx1⟩
    refine q_asgQ (R := LawR ⟨(A.ro.2, A.ro.1), A.co, A.wh, A.sh⟩) ((evq_tup (eaq_cons sw (eaq_of (vs := [.ref m, whV A.wh, shV A.sh]) (ea_cons (ev_var rfl) (ea_cons (ev_var rfl) (ea_cons (ev_var rfl) ea_nil)))) mon_row) (fun vs H' ⟨v, ws, h1, _, h2⟩ => by rw [h1, h2]; show 4 ≤ 100000; decide) (fun vs H' H'' e ⟨v, ws, h1, h2, h3⟩ => ⟨v, ws, h1, mon_row _ _ _ e h2, h3⟩)).to fun v H' e ⟨u, vs, hv, hu, v1, ws, h1, h2, h3⟩ => ?_) fun vt H5 e5 ⟨tu, hvt, htu⟩ => ?_
    · subst h1 h3
      have h2' := h2
      obtain ⟨u1, _, _, rfl, _⟩ := h2'
      exact ⟨u, hv, u1, m, hu, h2, mon_row _ _ _ e hm⟩
    subst hvt
    have gA : inG A.ro.2 A.co.1 := ⟨oA.on.b.1, oA.on.a.2⟩
    have gB : inG A.ro.1 A.co.2 := ⟨oA.on.a.1, oA.on.b.2⟩
    obtain ⟨s1, s2⟩ := shT_small oA.on.so oA.on.sg
    have z1 := cT_len (wh := A.wh) gA
    have z2 := cT_len (wh := A.wh) gB
    have ck : ∀ {H' : Hp} (j : Int), Ex H5 H' → (j = 0 ∨ j = 1) → Ev (tCall spCTL [] E0 (tCons (tVar 9) (tCons (tC (.int j)) tNil))) [some (.ref q), some (.ref t), some (.ref am), some (.ref n), some (.str (S (arT A.norm))), some (.ref l), some (.ref m), some (whV A.wh), some (shV A.sh), some (.ref tu), none, none, none, none] H' (.str (S (cT A.wh (pk (A.ro.2, A.ro.1) j) (pk A.co j)))) := fun j e hj =>
      ev_call (ea_cons (ev_var rfl) (ea_cons ev_c ea_nil)) fun H2 e2 Q q E => ⟨tu, _, j, rfl, (htu.ex e).ex e2, hj, by rcases hj with rfl | rfl; exact gA; exact gB, fun H' s => q H' s⟩
    refine q_asg (v := .str (S (shT A.sh ++ cT A.wh A.ro.2 A.co.1 ++ [58] ++ cT A.wh A.ro.1 A.co.2))) (ev_addS (ev_addS (m := [58]) (ev_addS (ev_call (ea_cons (ev_var rfl) ea_nil) fun H3 e3 Q q E => ⟨A.sh, rfl, oA.on.so, fun H' s => q H' s⟩) (ck 0 (Ex.refl H5) (.inl rfl)) (by show _ + (cT A.wh A.ro.2 A.co.1).length ≤ _; omega)) ev_c (by rw [List.length_append]; show _ + (cT A.wh A.ro.2 A.co.1).length + 1 ≤ _; omega)) (ck 1 (Ex.refl H5) (.inr rfl)) (by rw [List.length_append, List.length_append]; show _ + (cT A.wh A.ro.2 A.co.1).length + 1 + (cT A.wh A.ro.1 A.co.2).length ≤ _; omega)) fun H6 e6 => ?_
    have eL : shT A.sh ++ cT A.wh A.ro.2 A.co.1 ++ [58] ++ cT A.wh A.ro.1 A.co.2 = shT A.sh ++ (cT A.wh A.ro.2 A.co.1 ++ 58 :: cT A.wh A.ro.1 A.co.2) := by simp
    have lL : (shT A.sh ++ cT A.wh A.ro.2 A.co.1 ++ [58] ++ cT A.wh A.ro.1 A.co.2).length ≤ 40 := by
      rw [List.length_append, List.length_append, List.length_append]
      show _ + _ + 1 + _ ≤ _
      omega
    have aL : ∀ x ∈ shT A.sh ++ cT A.wh A.ro.2 A.co.1 ++ [58] ++ cT A.wh A.ro.1 A.co.2, x < 128 := fun x h => by
      rw [eL] at h
      rcases List.mem_append.mp h with h | h
      · exact s2 x h
      · rcases List.mem_append.mp h with h | h
        · exact cT_asc gA x h
        · rcases List.mem_cons.mp h with h | h
          · rw [h]; decide
          · exact cT_asc gB x h
    have e26 := (e24.trans e5).trans e6
    have D6 := D2.keep e26
    generalize hLg : shT A.sh ++ cT A.wh A.ro.2 A.co.1 ++ [58] ++ cT A.wh A.ro.1 A.co.2 = lg at eL lL aL
    refine q_asgK ⟨_, rfl, _, rfl, q, c0, cs, i, r, lg, rfl, D6, by omega, aL, by omega, fun sm i7 r7 H7 hsm j0 j1 sb7 D7 => ?_⟩
    have hs2 := hsm.len
    have k27 := (ka_ex e26).trans (ka_sib D6 sb7)
    have T7 := tabs_sib D6.hp sb7 (T2.ext e26)
    have hm7 := hm2.ka k27
    have hn7 := hn2.ka k27
    rw [eL] at hsm
    obtain ⟨pl1, pl2, pl3, pl4⟩ := parse_long gA gB oA.on.so oA.on.sg hsm
    have aL2 := aL
    rw [eL] at aL2
    have as := hsm.asc aL2
    have hl2 := hsm.len
    rw [← eL] at hl2
    generalize hsh : A.sh.map (fun l => sm.take l.length) = sh' at pl1 pl2 pl3 pl4
    have hB : Ar.norm ⟨(A.ro.2, A.ro.1), (A.co.1, A.co.2), A.wh, sh'⟩ = ⟨A.norm.ro, A.norm.co, A.norm.wh, sh'⟩ := norm_swap ⟨A.ro, A.co, A.wh, sh'⟩
    rw [hB] at pl1
    refine q_asgQ (rd (j := 11) (l := sm) rfl (by omega) as pl1) fun vb H8 e8 ⟨bk, hvb, hbk⟩ => ?_
    subst hvb
    have hN : decide (shV A.sh = V.non) = decide (A.sh = none) := by cases A.sh <;> rfl
    refine q_asg (v := shV sh') (Evl.ev_if (b := decide (A.sh = none)) (et_test (ev_op (ev_var rfl) ev_c fun H9 _ Q q => ⟨rfl, by rw [hN]; exact q H9 (Ex.refl H9)⟩)) (fun hz => ?_) (fun hz => ?_)) fun H9 e9 => ?_
    · have hs := of_decide_eq_true hz
      rw [hs] at hsh
      rw [← hsh]
      exact ev_c
    · cases g : A.sh with
      | none => rw [g] at hz; cases hz
      | some ls =>
        rw [g] at hsh eL
        have lz : ls.length ≤ sm.length := by
          rw [hl2, eL, List.length_append]
          show ls.length ≤ (ls ++ [33]).length + _
          rw [List.length_append]
          omega
        have so := oA.on.so
        rw [g] at so
        have lso := so.2
        have gs := ev_slS (σ := [some (.ref q), some (.ref t), some (.ref am), some (.ref n), some (.str (S (arT A.norm))), some (.ref l), some (.ref m), some (whV A.wh), some (shV A.sh), some (.ref tu), some (.str (S lg)), some (.str (S sm)), some (.ref bk), none]) (H := H8) (z := S sm) (te := tVar 11) (tl := tNoPart) (th := tPart (tCB (rLenX K) (tCons (tVar 8) tNil))) (ev_var (i := 11) rfl) eo_none (eo_some (i := ((ls.length : Nat) : Int)) (ev_lenS (K := K) (l := ls) (ev_var (i := 8) (by show some (some (shV A.sh)) = _; rw [g]; rfl)) (by omega))) (by rw [len_S]; omega)
        rw [sl_to sm lz, g] at gs
        rw [← hsh]
        exact gs
    have e79 := e8.trans e9
    have hm9 := hm7.ex e79
    have hn9 := hn7.ex e79
    have hbk9 := hbk.ex e9
    have hn9' := hn9
    obtain ⟨ln, mn, hnt, hln, hmn⟩ := hn9'
    have lawB : EvQ (tOp (rCatA K) (tSl (rSlA K) (tVar 3) (fun _ H Q => Q none H) (tPart (tC (.int 3)))) (tTup (tCons (tVar 13) tNil))) [some (.ref q), some (.ref t), some (.ref am), some (.ref n), some (.str (S (arT A.norm))), some (.ref l), some (.ref m), some (whV A.wh), some (shV A.sh), some (.ref tu), some (.str (S lg)), some (.str (S sm)), some (.ref bk), some (shV sh')] H9 (LawR ⟨A.norm.ro, A.norm.co, A.norm.wh, sh'⟩) := fun Ha ea Q kq => by
      refine (er_cat (er_sl (lo := none) (hi := some ((3 : Nat) : Int)) (er_of (ev_var (v := .ref n) rfl) hnt) (fun H2 e2 Q q => q H2 (Ex.refl H2)) (fun H2 e2 Q q => ⟨3, rfl, q H2 (Ex.refl H2)⟩)) (er_new (eu_tup (vs := [shV sh']) (ea_cons (ev_var rfl) ea_nil) (by show 1 ≤ 100000; decide))) (by rw [cutV_to]; show 3 + 1 ≤ 100000; decide)) Ha ea Q fun a Hb eb ha => kq _ Hb eb ⟨a, rfl, ln, mn, ?_, mon_row _ _ _ (ea.trans eb) hln, mon_row _ _ _ (ea.trans eb) hmn⟩
      rw [cutV_to] at ha
      exact ha
    have ie2 : Ev (tCall (spIsArea p.CA pa.C) [] E0 (tCons (tVar 12) (tCons (tOp (rCatA K) (tSl (rSlA K) (tVar 3) (fun _ H Q => Q none H) (tPart (tC (.int 3)))) (tTup (tCons (tVar 13) tNil))) tNil))) [some (.ref q), some (.ref t), some (.ref am), some (.ref n), some (.str (S (arT A.norm))), some (.ref l), some (.ref m), some (whV A.wh), some (shV A.sh), some (.ref tu), some (.str (S lg)), some (.str (S sm)), some (.ref bk), some (shV sh')] H9 (.bl true) := by
      refine ev_of_q (evq_call (eaq_two (evq_of (ev_var (v := .ref bk) rfl)) lawB mon_eq) fun vs H2 e2 ⟨x, y, hvs, hx, ⟨b, hy, hb⟩⟩ Q kq => ?_)
      subst hvs hy hx
      exact ⟨bk, b, _, rfl, hbk9.ex e2, hb, pl2, fun H3 s => kq _ H3 s rfl⟩
    have nf : PySem.W.notFirst K p.CA (.ref p.CA) = true := by
      unfold PySem.W.notFirst
      simp
    have eq2 : eqAr ⟨A.norm.ro, A.norm.co, A.norm.wh, sh'⟩ A.norm = true := by
      unfold eqAr
      rw [alike_comm, show A.norm.sh = A.sh from rfl, pl4, decide_eq_true ⟨rfl, rfl, rfl⟩]
      rfl
    have eqE : Ev (tOp (rEqO K p.CA (spAreaEq p.CA pa.C) E0) (tVar 12) (tVar 2)) [some (.ref q), some (.ref t), some (.ref am), some (.ref n), some (.str (S (arT A.norm))), some (.ref l), some (.ref m), some (whV A.wh), some (shV A.sh), some (.ref tu), some (.str (S lg)), some (.str (S sm)), some (.ref bk), some (shV sh')] H9 (.bl true) := ev_op (ev_var rfl) (ev_var rfl) fun Ha ea Q kq => by
      have hb := hbk9.ex ea
      have hma := hm9.ex ea
      have hb' := hb
      obtain ⟨dA, x1, x2, z0, _, _⟩ := hb'
      refine ⟨bk, dA, _, .ref p.CA, rfl, z0, area_ty TR hma, nf, bk, am, _, _, rfl, hb, hma, pl2, nN.on.so, fun H' s => ⟨⟨_, rfl⟩, ?_⟩⟩
      rw [eq2]
      exact kq H' s
    refine (ev_andV ie2 fun _ => eqE) H9 (Ex.refl H9) _ fun Ha ea => ?_
    have k7a := ka_ex (e79.trans ea)
    refine k i7 r7 Ha j0 (by omega) (k02.trans (k27.trans k7a)) (T7.ext (e79.trans ea)) (D7.keep (e79.trans ea))
end
end K18

set_option Elab.async false
set_option linter.all false
set_option maxRecDepth 100000
set_option maxHeartbeats 4000000
namespace K18
open PySem PySem.Spec PyProof.Rows L2 Pen EV2 Evl TX LamX
theorem nan_dp {K : PySem.W.Frag} {H : Hp} {l : List Nat} : DpAll K H [.str "NotAName", .str (S l)] [.str "NotAName", .str (S l)] := .cons (.str _) (.cons (.str _) .nil)
theorem nan_shaped {l : List Nat} (h : ∀ c ∈ l, c < 128) : SeqAt.shaped (.tuple [.str "NotAName", .str (S l)]) = true := by
  unfold SeqAt.shaped
  refine Bool.and_eq_true_iff.mpr ⟨?_, decide_eq_true ?_⟩
  · show (PyData.strOk ("NotAName" : Str) && (PyData.strOk (S l) && true)) = true
    have z : PyData.strOk ("NotAName" : Str) = true := by decide +kernel
    rw [z, strOk_S h]
    rfl
  · show max 0 (max 0 0) + 1 ≤ 64
    decide
theorem nan_eqv {l : List Nat} : PyData.eqv (.tuple [.str "NotAName", .str (S l)]) (.tuple [.str "NotAName", .str (S l)]) = true := by
  show (((("NotAName" : Str) == "NotAName")) && ((S l == S l) && true)) = true
  simp
def pool3 : List Nat := [36, 36, 33, 48, 49, 97, 90, 58, 58, 32, 35, 66, 57]
theorem pool3_eq : (Str.ofString "$$!01aZ:: #B9") = S pool3 := by decide +kernel
theorem tryW_sh {wh : Wh} {x y : List Nat} {sh : Option (List Nat)} {B : Ar} (h : tryW wh x y sh = some B) : B.sh = sh := by
  unfold tryW at h
  cases h1 : cornR wh x with
  | none => rw [h1] at h; cases h
  | some a =>
    cases h2 : cornR wh y with
    | none => rw [h1, h2] at h; cases h
    | some b =>
      rw [h1, h2] at h
      cases h
      rfl
theorem parseB_sh {b : List Nat} {sh : Option (List Nat)} {B : Ar} (h : parseB b sh = some B) : B.sh = sh := by
  unfold parseB at h
  by_cases z : 0 < (cParts b).2.1.length
  · rw [if_pos z] at h
    cases t1 : tryW .no (cParts b).1 (cParts b).2.2 sh with
    | some C =>
      rw [t1] at h
      cases h
      exact tryW_sh t1
    | none =>
      cases t2 : tryW .cols (cParts b).1 (cParts b).2.2 sh with
      | some C =>
        rw [t1, t2] at h
        cases h
        exact tryW_sh t2
      | none =>
        rw [t1, t2] at h
        exact tryW_sh h
  · rw [if_neg z] at h
    exact tryW_sh h
theorem parseR_shOk {w : List Nat} {B : Ar} (wa : ∀ x ∈ w, x < 128) (h : parseR w = some B) : shOk B.sh := by
  rw [parseR_M] at h
  unfold parseRM at h
  cases q : lastBang w with
  | none =>
    rw [q] at h
    rw [parseB_sh h]
    exact True.intro
  | some p =>
    obtain ⟨a, b⟩ := p
    rw [q] at h
    have h : (if sheetOk a = true then parseB b (some a) else none) = some B := h
    by_cases g : sheetOk a = true
    · rw [if_pos g] at h
      rw [parseB_sh h]
      obtain ⟨e, _⟩ := bang_some q
      have g2 := g
      unfold sheetOk at g2
      simp only [Bool.and_eq_true, decide_eq_true_eq] at g2
      exact ⟨fun x hx => wa x (by rw [e]; exact List.mem_append_left _ hx), by have := g2.1.1.2; omega⟩
    · rw [if_neg g] at h
      cases h
theorem arT_40 {A : Ar} (on : A.On) : (arT A).length ≤ 40 := by
  obtain ⟨s1, s2⟩ := shT_small on.so on.sg
  have z1 := cT_len (wh := A.wh) on.a
  have z2 := cT_len (wh := A.wh) on.b
  unfold arT corsT
  split
  · rw [List.length_append]; omega
  · rw [List.length_append, List.length_append, List.length_cons]; omega
structure TxtRk (K : PySem.W.Frag) (mg : Str → Option Value) (pc : Ads) (CO CM iO iM : Addr) (dO dM : FuncData) (fT : Addr) (dT : FuncData) : Prop where
  mg_told : mg "_law_told" = some (.ref fT)
  F_told : Fun K "_law_told" "_law_told" s_l_told fT dT
  b_told : Binds K dT P_l_told []
  RT : TxtT K mg pc CO CM iO iM dO dM
section
variable {P : Program} {w : World} {K : PySem.W.Frag} {mg : Str → Option Value} {base : Heap} {ph : AdL} {pc : Ads} {pg : AdG} {pa : AdC} {D : Addr} {p : AdR} {px : AdX} {mv mc mr ma : List Value} {pn6 : AdN6} {pn : AdN} {p2 : AdN2} {p3 : AdN3} {p5 : AdN5} {pl : AdW} {py : AdY} {CO CM iO iM fT : Addr} {dO dM dT : FuncData} {TT : List (Addr × Str)}
theorem ok_l_spoilt_right (TC : TxtC K mg pc) (TG : TxtG K mg pg) (TA : TxtA6 K mg pc.S pa) (Z : TxtB K mg pa D) (TR : TxtR K mg p) (MK : TxtK K pa p mv) (MX : TxtD K pa p mc mr ma) (TN6 : TxtN6 K mg pn6) (TN : TxtN K mg pn) (TN5 : TxtN5 K mg p5) (TH : TxtH K mg ph) (TL : TxtL K mg pl) (TX : TxtX K mg px) (TY : TxtY K mg py) (R : TxtRk K mg pc CO CM iO iM dO dM fT dT)
    (G_l_normal : FnOk P w K mg base CX0 6 pl.f_normal pl.d_normal P_l_normal (spNormal TT)) (G_l_area_read : FnOk P w K mg base CX0 7 py.f_l_area_read py.d_l_area_read P_l_area_read (spARL TT)) {f c P1 : Addr} {fd : FuncData} (F : FunC K "_law_spoilt_right" "_law_spoilt_right" s_l_spoilt_right f c fd)
    (hTB : TabB base mg c P1) (hmT : (P1, qOf "_law_spoilt_right") ∈ TT) (hu : ∀ x ∈ TT, x.1 = P1 → x.2 = qOf "_law_spoilt_right") : FnOk P w K mg base CX0 15 f fd P_l_spoilt_right (spTR TT) := by
  have TAa : TxtA mg := ⟨TH.n_list, TH.n_int, TH.n_len⟩
  have G_l_draw : FnOk P w K mg base CX0 1 ph.f_draw ph.d_draw P_l_draw spDraw := ok_l_draw TH.F_l_draw TAa
  have G_l_spoilt : FnOk P w K mg base CX0 3 p5.f_spoilt p5.d_spoilt P_l_spoilt spSpoilt := ok_l_spoilt TH TN5
  have G_l_is_area : FnOk P w K mg base CX0 3 pl.f_is_area pl.d_is_area P_l_is_area (spIsArea p.CA pa.C) := ok_l_is_area TC TA Z TR TN6 TL
  have G_l_area_text : FnOk P w K mg base CX0 5 py.f_l_area_text py.d_l_area_text P_l_area_text spATL := ok_l_area_text TH TN TY
  have G_read_area : FnOk P w K mg base (L2.CX P w) 10 px.f_read_area px.d_read_area P_read_area (spReadArea K p.CA pa.C pc.CB pc.CN) := ok_read_area TC TG TA Z TR MK TX MX
  have RT := R.RT
  have hbT := R.b_told
  obtain ⟨oc, od, kV, doc, pm, an, cdv, ct, osl, hfd, lk, hcg⟩ := R.F_told.ex
  subst hfd
  refine F.ok sc_l_spoilt_right (fun vs H Q E h => ?_) (fun A outer s H vs Q E hr h => ?_)
  · obtain ⟨q, c, t, cs, i, r, A, rfl, _⟩ := h
    rfl
  · obtain ⟨q, c0, t, cs, i, r, A, rfl, D0, hi, hA, oA, hT, k⟩ := h
    refine ⟨_, (pss_cons (ps_set (i := 5) sc_l_spoilt_right.nd rfl (Or.inr rfl) (pe_call G_l_area_text (hr.mono (by decide)) (by rfl) TY.mg_l_area_text TY.F_l_area_text.kp TY.b_l_area_text .nil pass0 (pa_cons (pe_call G_l_normal (hr.mono (by decide)) (by rfl) TL.mg_l_normal TL.F_l_normal.kp TL.b_l_normal .nil pass0 (pa_cons (pv 1) pa_nil)) pa_nil)))
      (pss_cons (ps_for PassesOwn.never rfl (pi_range1 (by rfl) TH.n_range (pa_cons (pe_op op_add pe_int (pe_call G_l_draw (hr.mono (by decide)) (by rfl) TH.mg_l_draw TH.F_l_draw.kp TH.b_l_draw .nil pass0 (pa_cons (pv 0) (pa_cons pe_int pa_nil)))) pa_nil)) (pg_name (i := 2) sc_l_spoilt_right.nd rfl (Or.inl rfl)) (pss_one (ps_set (i := 5) sc_l_spoilt_right.nd rfl (Or.inr rfl) (pe_call G_l_spoilt (hr.mono (by decide)) (by rfl) TN5.mg_l_spoilt TN5.F_l_spoilt.kp TN5.b_l_spoilt .nil pass0 (pa_cons (pv 0) (pa_cons (pv 5) (pa_cons pe_str pa_nil)))))))
      (pss_cons (ps_par (i := 3) (j := 4) (by rfl) sc_l_spoilt_right.nd rfl rfl (by decide) rfl rfl (pa_cons (pe_call G_l_area_read (hr.mono (by decide)) (by rfl) TY.mg_l_area_read TY.F_l_area_read.kp TY.b_l_area_read .nil pass0 (pa_cons (pv 5) pa_nil)) (pa_cons (pe_lamcall (T := TT) (TT := TT6 pc.CB pc.CN) (t := fun E => tCall (spReadArea K p.CA pa.C pc.CB pc.CN) [] E (tCons (tVar 5) tNil)) (k := 11) (by rfl) R.mg_told R.F_told.kp lk hcg hbT sc_l_told rfl (Or.inl rfl) (told_gives RT) hTB rfl hmT hu (hr.mono (by decide)) (lamS_by (sc := defScope s_l_spoilt_right) (by decide +kernel)) rfl (fun _ _ _ _ _ => rfl)
        (fun A outer s H E f c' hr2 => (pe_call G_read_area (hr2.mono (by decide)) (by rfl) TX.mg_read_area TX.F_read_area.kp TX.b_read_area .nil (passes_call (takes_of rfl rfl rfl rfl) fun _ _ _ _ h => h) (pa_cons (pv 5) pa_nil)))) pa_nil)) (by rfl))
      (pss_cons (ps_if (pt_cmpR op_isN1 (pv 3) pe_non (nomark _)) (pss_one (ps_ret (pe_cmpR (op_eqD hr.units) (pv 4) (pe_tup (pa_cons pe_str (pa_cons (pv 5) pa_nil))) (nomark _)))) pss_nil)
      (pss_one (ps_ret (pe_and (pe_cmpR op_eq (pe_ix ix_tup (pv 4) pe_int (fun _ _ => rfl)) pe_str (nomark _)) (pe_one (pe_call G_l_is_area (hr.mono (by decide)) (by rfl) TL.mg_l_is_area TL.F_l_is_area.kp TL.b_l_is_area .nil pass0 (pa_cons (pe_ix ix_tup (pv 4) pe_int (fun _ _ => rfl)) (pa_cons (pv 3) pa_nil))))))))))), ?_⟩
    have nN := oA.on.norm
    have zT := arT_small nN.on
    have z40 := arT_40 nN.on
    refine q_asgK ⟨_, rfl, t, A, rfl, hA, hT, fun v H1 e1 T1 ⟨n, hv, hn⟩ => ?_⟩
    subst hv
    refine ⟨n, A.norm, rfl, hn, nN.on, fun H2 e2 => ?_⟩
    have D2 := (pen_extN D0 e1).keep e2
    have T2 := T1.ext e2
    have k02 := (ka_extN e1).trans (ka_ex e2)
    refine ⟨_, rfl, q, c0, cs, i, r, 2, rfl, D2, by omega, by decide, by decide, fun z i2 r2 H3 z0 z1 j0 j1 sb3 D3 => ⟨1, z, rfl, rfl, ?_⟩⟩
    have T3 := tabs_sib D2.hp sb3 T2
    have k03 := k02.trans (ka_sib D2 sb3)
    refine ⟨1 + z, rfl, by omega, by omega, for_range (n := (1 + z).toNat) (fun j σ' H' => ∃ (w : List Nat) (i' r' : Int) (tv : Option V), σ' = [some (.ref q), some (.ref t), tv, none, none, some (.str (S w))] ∧ (∀ x ∈ w, x < 128) ∧ w.length ≤ 40 + j ∧ PenAt H' q c0 cs i' r' ∧ KA H H' ∧ Tabs TT H' ∧ i ≤ i' ∧ i' ≤ i + 1 + 3 * j) ⟨_, i2, r2, none, rfl, zT.2, by omega, D3, k03, T3, by omega, by omega⟩ ?_ ?_⟩
    · rintro j σ' H3 hj ⟨w, i3, r3, tv, rfl, wa, wl, D3, kp3, hT3, j3, j4⟩
      refine ⟨_, rfl, _, rfl, q, c0, cs, i3, r3, w, pool3, congrArg (fun z => [V.ref q, V.str (S w), V.str z]) pool3_eq, D3, by omega, wa, by decide, by omega, by decide, by decide, fun w2 i4 r4 H4 wa2 wl2 j5 j6 sb4 D4 => ?_⟩
      exact ⟨w2, i4, r4, _, rfl, wa2, by omega, D4, kp3.trans (ka_sib D3 sb4), tabs_sib D3.hp sb4 hT3, by omega, by omega⟩
    · rintro σ' H3 ⟨w, i3, r3, tv, rfl, wa, wl, D3, kp3, hT3, j3, j4⟩
      have wl : w.length ≤ 980 := by omega
      have en : ∀ {σ : L2.St} {H : Hp} {te : TE} {v : V}, Ev te σ H v → Ev (tOp rIsN te (tC .non)) σ H (.bl (decide (v = .non))) := fun h => ev_op h ev_c fun H1 _ Q q => ⟨rfl, q H1 (Ex.refl H1)⟩
      cases hp : parseR w with
      | none =>
        refine ⟨_, rfl, w, rfl, wa, wl, hT3, fun _ H4 e4 T4 => ?_, fun B hB => by rw [hp] at hB; cases hB⟩
        refine ⟨T4, fun H7 eN hT7 t0 nt0 => ?_⟩
        have e8 : Ex H7 (upd H7 t0 (.tup [.str "nothing"])) := Ex.new nt0
        have kp8 : KA H (upd H7 t0 (.tup [.str "nothing"])) := (kp3.trans ((ka_extN e4).trans (ka_extN eN))).trans (ka_ex e8)
        have D8 := (pen_extN (pen_extN D3 e4) eN).keep e8
        have hT8 := hT7.ext e8
        generalize (upd H7 t0 (.tup [.str "nothing"])) = H8 at *
        refine ⟨_, rfl, _, rfl, .inl ⟨w, rfl, wa, wl, (fun B hB => by rw [hp] at hB; cases hB), fun _ d H9 e9 nd hd => ?_⟩⟩
        refine ⟨pc.CN, d, _, "NotAName", "name", _, rfl, rfl, hd, .inr ⟨rfl, rfl, rfl⟩, rfl, fun pr hpr => ?_⟩
        have e12 := Ex.trans e9 (Ex.new (o := .tup [.str "NotAName", .str (S w)]) hpr)
        have hp12 : (upd H9 pr (.tup [.str "NotAName", .str (S w)])) pr = some (.tup [.str "NotAName", .str (S w)]) := upd_same
        generalize (upd H9 pr (.tup [.str "NotAName", .str (S w)])) = H12 at *
        refine ⟨_, _, rfl, ?_⟩
        dsimp only
        refine q_when (b := true) (et_is (et_test (en (ev_var (v := .non) rfl))) rfl) (fun _ H13 e13 => ?_) fun z => nomatch z
        refine ⟨_, rfl, ?_⟩
        refine (eu_tup (σ := [some (.ref q), some (.ref t), tv, some .non, some (.ref pr), some (.str (S w))]) (vs := [.str "NotAName", .str (S w)]) (ea_cons ev_c (ea_cons (ev_var (i := 5) rfl) ea_nil)) (by show 2 ≤ 100000; decide)) H13 (Ex.refl H13) _ fun u H14 nu e14 hu14 => ?_
        refine ⟨_, _, .tup (st_of ((e13.trans e14) _ _ hp12)) nan_dp, .tup (st_of hu14) nan_dp, nan_shaped wa, nan_shaped wa, ?_⟩
        rw [nan_eqv]
        have ef := (e12.trans e13).trans e14
        exact k i3 r3 H14 (by omega) (by omega) (kp8.trans (ka_ex ef)) (hT8.ext ef) (D8.keep ef)
      | some B =>
        have so := parseR_shOk wa hp
        refine ⟨_, rfl, w, rfl, wa, wl, hT3, (fun hn => by rw [hp] at hn; cases hn), fun B' hB v H4 e4 T4 ⟨bn, hv, hbn⟩ => ?_⟩
        rw [hp] at hB
        cases hB
        subst hv
        refine ⟨T4, fun H7 eN hT7 t0 nt0 => ?_⟩
        have e8 : Ex H7 (upd H7 t0 (.tup [.str "nothing"])) := Ex.new nt0
        have kp8 : KA H (upd H7 t0 (.tup [.str "nothing"])) := (kp3.trans ((ka_extN e4).trans (ka_extN eN))).trans (ka_ex e8)
        have hb8 := hbn.ka ((ka_extN eN).trans (ka_ex e8))
        have D8 := (pen_extN (pen_extN D3 e4) eN).keep e8
        have hT8 := hT7.ext e8
        generalize (upd H7 t0 (.tup [.str "nothing"])) = H8 at *
        refine ⟨_, rfl, _, rfl, .inl ⟨w, rfl, wa, wl, (fun B' hB a H9 e9 ha9 => ?_), fun hn => by rw [hp] at hn; cases hn⟩⟩
        rw [hp] at hB
        cases hB
        intro pr hpr
        have e12 := Ex.trans e9 (Ex.new (o := .tup [.str "told", .ref a]) hpr)
        have hp12 : (upd H9 pr (.tup [.str "told", .ref a])) pr = some (.tup [.str "told", .ref a]) := upd_same
        have ha12 := ha9.ex (Ex.new (o := .tup [.str "told", .ref a]) hpr)
        generalize (upd H9 pr (.tup [.str "told", .ref a])) = H12 at *
        refine ⟨_, _, rfl, ?_⟩
        dsimp only
        refine q_when (b := false) (et_is (et_test (en (ev_var (v := .ref bn) rfl))) rfl) (fun z => nomatch z) fun _ H13 e13 => ?_
        have hp13 := e13 _ _ hp12
        have ha13 := ha12.ex e13
        have hb13 := hb8.ex (e12.trans e13)
        have ixp : ∀ {H' : Hp} {j : Int} {v : V}, Ex H13 H' → atI [V.str "told", V.ref a] j = some v → Ev (tOp (rIxT K) (tVar 4) (tC (.int j))) [some (.ref q), some (.ref t), tv, some (.ref bn), some (.ref pr), some (.str (S w))] H' v := fun e h2 => ev_op (ev_var rfl) ev_c (rv_ixT (st_of (e _ _ hp13)) h2)
        have eIs : Ev (tCall (spIsArea p.CA pa.C) [] E0 (tCons (tOp (rIxT K) (tVar 4) (tC (.int 1))) (tCons (tVar 3) tNil))) [some (.ref q), some (.ref t), tv, some (.ref bn), some (.ref pr), some (.str (S w))] H13 (.bl true) :=
          ev_call (ea_cons (fun H1 e Q q => ixp e (j := 1) (v := .ref a) rfl H1 (Ex.refl H1) _ q) (ea_cons (ev_var (v := .ref bn) rfl) ea_nil)) fun H2 e2 Q kq E => ⟨a, bn, B, rfl, ha13.ex e2, hb13.ex e2, so, fun H4 s4 => kq H4 s4⟩
        refine (show Ev _ _ _ (.bl true) from ev_is (ev_andV (b := true) (ev_op (ixp (Ex.refl _) (j := 0) (v := .str "told") rfl) (ev_c (v := .str "told")) (rv_eq rfl)) fun _ => eIs) (by simp)) H13 (Ex.refl H13) _ fun H14 e14 => ?_
        have ef := (e12.trans e13).trans e14
        exact k i3 r3 H14 (by omega) (by omega) (kp8.trans (ka_ex ef)) (hT8.ext ef) (D8.keep ef)
end
end K18

set_option Elab.async false
set_option linter.all false
set_option maxRecDepth 100000
set_option maxHeartbeats 4000000
namespace K18
open PySem PySem.Spec PyProof.Rows L2 Pen EV2 Evl TX LamX
abbrev s_law : Stmt := topS 81
abbrev N_law : List Str := ["_law_script", "_law_pen_here", "_law_lap", "_law_base", "_law_area_here", "_law_thing"]
abbrev P_law : List Str := ["_law_script"]
theorem sc_law : FnScope N_law P_law (defScope s_law) := ⟨rfl, rfl, rfl, by decide +kernel, rfl, by decide +kernel, by decide +kernel⟩
def spLaw (K : PySem.W.Frag) (TT : List (Addr × Str)) : Sp := fun vs H Q _ => ∃ (a : Addr) (ns : List Int), vs = [.ref a] ∧ SqL K H a (ns.map V.int) ∧ ns.length ≤ 63 ∧ Tabs TT H ∧ ∀ H', Q (.bl true) H'
/-- a base -/
def BsP (H : Hp) (v : V) : Prop := ∃ (b : Addr) (br bc : Int), v = .ref b ∧ H b = some (.tup [.int br, .int bc]) ∧ (0 ≤ br ∧ br ≤ 999993) ∧ 0 ≤ bc ∧ bc ≤ 18271
theorem bs_st : ∀ H H' v, Ex H H' → BsP H v → BsP H' v := fun H H' v e ⟨b, br, bc, h1, h2, h3⟩ => ⟨b, br, bc, h1, e _ _ h2, h3⟩
theorem bs_tup {σ : L2.St} {H : Hp} {br bc : Int} (h1 : 0 ≤ br ∧ br ≤ 999993) (h2 : 0 ≤ bc ∧ bc ≤ 18271) : EvP BsP (tTup (tCons (tC (.int br)) (tCons (tC (.int bc)) tNil))) σ H := fun H1 e Q q =>
  (eu_tup (vs := [.int br, .int bc]) (ea_cons ev_c (ea_cons ev_c ea_nil)) (by show 2 ≤ 100000; decide)) H1 e _ fun p H2 _ e2 hp => q _ H2 e2 ⟨p, br, bc, rfl, hp, h1, h2⟩
/-- a thing that is no text and no area -/
def ThP (H : Hp) (v : V) : Prop := v = .non ∨ v = .int 1 ∨ v = .bl true ∨ (∃ l, v = .ref l ∧ H l = some (.lst [.str "A1"])) ∨ ∃ l, v = .ref l ∧ H l = some (.tup [.str "A1"])
theorem th_st : ∀ H H' v, Ex H H' → ThP H v → ThP H' v := fun H H' v e h => by
  rcases h with h | h | h | ⟨l, h, h2⟩ | ⟨l, h, h2⟩
  · exact .inl h
  · exact .inr (.inl h)
  · exact .inr (.inr (.inl h))
  · exact .inr (.inr (.inr (.inl ⟨l, h, e _ _ h2⟩)))
  · exact .inr (.inr (.inr (.inr ⟨l, h, e _ _ h2⟩)))
theorem ThP.ka {H H' : Hp} {v : V} (h : ThP H v) (k : KA H H') : ThP H' v := by
  rcases h with h | h | h | ⟨l, h, h2⟩ | ⟨l, h, h2⟩
  · exact .inl h
  · exact .inr (.inl h)
  · exact .inr (.inr (.inl h))
  · exact .inr (.inr (.inr (.inl ⟨l, h, k.lst h2⟩)))
  · exact .inr (.inr (.inr (.inr ⟨l, h, k.tup h2⟩)))
def badD (d : PyData) : PyData := .tuple [.str "BadValue", d]
/-- what is asked of such a thing: its kind, its data -/
theorem ThP.facts {K : PySem.W.Frag} {v : V} {H : Hp} {CA : Addr} (zC : ∀ n ∈ ["NoneType", "int", "bool", "list", "tuple"], PySem.W.kitOne K (.type n) (.ref CA) = some false) (h : ThP H v) : ∃ (n : String) (d : PyData), Knd K H v n ∧ kitB n "str" = some false ∧ PySem.W.kitOne K (.type n) (.ref CA) = some false ∧ (∀ H', Ex H H' → Dp K H' v d) ∧ SeqAt.shaped (badD d) = true ∧ PyData.eqv (badD d) (badD d) = true := by
  rcases h with rfl | rfl | rfl | ⟨l, rfl, h⟩ | ⟨l, rfl, h⟩
  · exact ⟨"NoneType", .none, knd_non, by decide +kernel, zC _ (by decide), fun _ _ => .non, by decide +kernel, by decide +kernel⟩
  · exact ⟨"int", .int 1, knd_int, by decide +kernel, zC _ (by decide), fun _ _ => .int _, by decide +kernel, by decide +kernel⟩
  · exact ⟨"bool", .bool true, knd_bl, by decide +kernel, zC _ (by decide), fun _ _ => .bl _, by decide +kernel, by decide +kernel⟩
  · exact ⟨"list", .list [.str "A1"], knd_lst h, by decide +kernel, zC _ (by decide), fun _ e => .lst (sq_of (e _ _ h)) (.cons (.str _) .nil), by decide +kernel, by decide +kernel⟩
  · exact ⟨"tuple", .tuple [.str "A1"], knd_tup h, by decide +kernel, zC _ (by decide), fun _ e => .tup (st_of (e _ _ h)) (.cons (.str _) .nil), by decide +kernel, by decide +kernel⟩
section
variable {P : Program} {w : World} {K : PySem.W.Frag} {mg : Str → Option Value} {base : Heap} {ph : AdL} {pc : Ads} {pg : AdG} {pa : AdC} {D : Addr} {p : AdR} {px : AdX} {mv mc mr ma : List Value} {p2 : AdN2} {p4 : AdN4} {pl : AdW} {py : AdY} {CO CM iO iM fT : Addr} {dO dM dT : FuncData} {TT : List (Addr × Str)}
theorem ok_law (TC : TxtC K mg pc) (TG : TxtG K mg pg) (TA : TxtA6 K mg pc.S pa) (Z : TxtB K mg pa D) (TR : TxtR K mg p) (MK : TxtK K pa p mv) (MX : TxtD K pa p mc mr ma) (TN4 : TxtN4 K mg p4) (TH : TxtH K mg ph) (TL : TxtL K mg pl) (TX : TxtX K mg px) (TY : TxtY K mg py) (R : TxtRk K mg pc CO CM iO iM dO dM fT dT)
    (zC : ∀ n ∈ ["NoneType", "int", "bool", "list", "tuple"], PySem.W.kitOne K (.type n) (.ref p.CA) = some false)
    (G_l_text_right : FnOk P w K mg base CX0 14 py.f_l_text_right py.d_l_text_right P_l_text_right (spTR TT)) (G_l_spoilt_right : FnOk P w K mg base CX0 15 py.f_l_spoilt_right py.d_l_spoilt_right P_l_spoilt_right (spTR TT)) {f c P1 : Addr} {fd : FuncData} (F : FunC K "law" "law" s_law f c fd)
    (hTB : TabB base mg c P1) (hmT : (P1, qOf "law") ∈ TT) (hu : ∀ x ∈ TT, x.1 = P1 → x.2 = qOf "law") : FnOk P w K mg base CX0 18 f fd P_law (spLaw K TT) := by
  have TAa : TxtA mg := ⟨TH.n_list, TH.n_int, TH.n_len⟩
  have G_l_pen : FnOk P w K mg base CX0 1 ph.f_pen ph.d_pen P_l_pen (spPen K) := ok_l_pen TH.F_l_pen TAa
  have G_l_pick : FnOk P w K mg base CX0 2 ph.f_pick ph.d_pick P_l_pick (spPick K) := ok_l_pick TH.F_l_pick TAa TH.F_l_draw TH.b_l_draw TH.mg_l_draw
  have G_l_area : FnOk P w K mg base CX0 4 pl.f_area pl.d_area P_l_area (spAreaL K) := ok_l_area TH TL
  have G_l_sheet_name : FnOk P w K mg base CX0 3 p4.f_sheet_name p4.d_sheet_name P_l_sheet_name spSheetN := ok_l_sheet_name TH TN4
  have G_read_area : FnOk P w K mg base (L2.CX P w) 10 px.f_read_area px.d_read_area P_read_area (spReadArea K p.CA pa.C pc.CB pc.CN) := ok_read_area TC TG TA Z TR MK TX MX
  have G_area_text : FnOk P w K mg base (L2.CX P w) 8 px.f_area_text px.d_area_text P_area_text (spAreaT K p.CA pa.C pc.CB) := ok_area_text TC TG TA Z TR TX
  have RT := R.RT
  have hbT := R.b_told
  obtain ⟨oc, od, kV, doc, pm, an, cdv, ct, osl, hfd, lk, hcg⟩ := R.F_told.ex
  subst hfd
  refine F.ok sc_law (fun vs H Q E h => ?_) (fun A outer s H vs Q E hr h => ?_)
  · obtain ⟨a, ns, rfl, _⟩ := h
    rfl
  · obtain ⟨a, ns, rfl, hs, hl, hT, k⟩ := h
    refine ⟨_, (pss_cons (ps_set (i := 1) sc_law.nd rfl (Or.inl rfl) (pe_call G_l_pen (hr.mono (by decide)) (by rfl) TH.mg_l_pen TH.F_l_pen.kp TH.b_l_pen .nil pass0 (pa_cons (pv 0) pa_nil)))
      (pss_cons (ps_for PassesOwn.never rfl (pi_range1 (by rfl) TH.n_range (pa_cons pe_int pa_nil)) (pg_name (i := 2) sc_law.nd rfl (Or.inl rfl)) (pss_cons (ps_set (i := 3) sc_law.nd rfl (Or.inl rfl) (pe_call G_l_pick (hr.mono (by decide)) (by rfl) TH.mg_l_pick TH.F_l_pick.kp TH.b_l_pick .nil pass0 (pa_cons (pv 1) (pa_cons (pe_lst (pa_cons (pe_tup (pa_cons pe_int (pa_cons pe_int pa_nil))) (pa_cons (pe_tup (pa_cons pe_int (pa_cons pe_int pa_nil))) (pa_cons (pe_tup (pa_cons pe_int (pa_cons pe_int pa_nil))) (pa_cons (pe_tup (pa_cons pe_int (pa_cons pe_int pa_nil))) pa_nil))))) pa_nil))))
      (pss_cons (ps_set (i := 4) sc_law.nd rfl (Or.inl rfl) (pe_call G_l_area (hr.mono (by decide)) (by rfl) TL.mg_l_area TL.F_l_area.kp TL.b_l_area .nil pass0 (pa_cons (pv 1) (pa_cons (pv 3) (pa_cons (pe_lst (pa_cons pe_non (pa_cons pe_non (pa_cons (pe_call G_l_sheet_name (hr.mono (by decide)) (by rfl) TN4.mg_l_sheet_name TN4.F_l_sheet_name.kp TN4.b_l_sheet_name .nil pass0 (pa_cons (pv 1) pa_nil)) pa_nil)))) pa_nil)))))
      (pss_cons (ps_if (pt_not (pt_val (pe_call G_l_text_right (hr.mono (by decide)) (by rfl) TY.mg_l_text_right TY.F_l_text_right.kp TY.b_l_text_right .nil pass0 (pa_cons (pv 1) (pa_cons (pv 4) pa_nil))))) (pss_one (ps_ret pe_bl)) pss_nil)
      (pss_one (ps_if (PW.pt (pw_or (pt_not (pt_val (pe_call G_l_spoilt_right (hr.mono (by decide)) (by rfl) TY.mg_l_spoilt_right TY.F_l_spoilt_right.kp TY.b_l_spoilt_right .nil pass0 (pa_cons (pv 1) (pa_cons (pv 4) pa_nil))))) (pw_or1 (pt_not (pt_val (pe_call G_l_spoilt_right (hr.mono (by decide)) (by rfl) TY.mg_l_spoilt_right TY.F_l_spoilt_right.kp TY.b_l_spoilt_right .nil pass0 (pa_cons (pv 1) (pa_cons (pv 4) pa_nil)))))))) (pss_one (ps_ret pe_bl)) pss_nil))))))
      (pss_cons (ps_set (i := 5) sc_law.nd rfl (Or.inr rfl) (pe_call G_l_pick (hr.mono (by decide)) (by rfl) TH.mg_l_pick TH.F_l_pick.kp TH.b_l_pick .nil pass0 (pa_cons (pv 1) (pa_cons (pe_lst (pa_cons pe_non (pa_cons pe_int (pa_cons pe_bl (pa_cons (pe_lst (pa_cons pe_str pa_nil)) (pa_cons (pe_tup (pa_cons pe_str pa_nil)) pa_nil)))))) pa_nil))))
      (pss_cons (ps_if (pt_cmpR (op_neD hr.units) (pe_lamcall (T := TT) (TT := TT6 pc.CB pc.CN) (t := fun E => tCall (spReadArea K p.CA pa.C pc.CB pc.CN) [] E (tCons (tVar 5) tNil)) (k := 11) (by rfl) R.mg_told R.F_told.kp lk hcg hbT sc_l_told rfl (Or.inl rfl) (told_gives RT) hTB rfl hmT hu (hr.mono (by decide)) (lamS_by (sc := defScope s_law) (by decide +kernel)) rfl (fun _ _ _ _ _ => rfl)
        (fun A outer s H E f c' hr2 => (pe_call G_read_area (hr2.mono (by decide)) (by rfl) TX.mg_read_area TX.F_read_area.kp TX.b_read_area .nil (passes_call (takes_of rfl rfl rfl rfl) fun _ _ _ _ h => h) (pa_cons (pv 5) pa_nil)))) (pe_tup (pa_cons pe_str (pa_cons (pv 5) pa_nil))) (nomark _)) (pss_one (ps_ret pe_bl)) pss_nil)
      (pss_one (ps_ret (pe_cmpR (op_eqD hr.units) (pe_lamcall (T := TT) (TT := TT6 pc.CB pc.CN) (t := fun E => tCall (spAreaT K p.CA pa.C pc.CB) [] E (tCons (tVar 5) tNil)) (k := 11) (by rfl) R.mg_told R.F_told.kp lk hcg hbT sc_l_told rfl (Or.inl rfl) (told_gives RT) hTB rfl hmT hu (hr.mono (by decide)) (lamS_by (sc := defScope s_law) (by decide +kernel)) rfl (fun _ _ _ _ _ => rfl)
        (fun A outer s H E f c' hr2 => (pe_call G_area_text (hr2.mono (by decide)) (by rfl) TX.mg_area_text TX.F_area_text.kp TX.b_area_text .nil (passes_call (takes_of rfl rfl rfl rfl) fun _ _ _ _ h => h) (pa_cons (pv 5) pa_nil)))) (pe_tup (pa_cons pe_str (pa_cons (pv 5) pa_nil))) (nomark _)))))))), ?_⟩
    refine q_asgK ?_
    refine ⟨_, rfl, a, ns, rfl, hs, hl, fun q c H1 nq e1 D1 => ?_⟩
    have T1 := hT.ext e1
    refine q_forR1 (n := 3) (ea_cons ev_c ea_nil) (by decide) (fun j σ' H' => ∃ (i r : Int) (x2 x3 x4 : Option V), σ' = [some (.ref a), some (.ref q), x2, x3, x4, none] ∧ PenAt H' q c ns i r ∧ 0 ≤ i ∧ i ≤ 5000 * j ∧ Tabs TT H') (fun H2 e2 => ⟨0, 0, none, none, none, rfl, D1.keep e2, by decide, by decide, T1.ext e2⟩) ?body ?done
    case body =>
      rintro j σ' H2 hj ⟨i, r, x2, x3, x4, rfl, D2, i0, i1, T2⟩
      have hj2 : (j : Int) ≤ 2 := by omega
      refine q_asgK ?_
      refine ⟨_, rfl, rd_ps (P := BsP) (n := 4) bs_st ?hv (by decide) fun lo vs H3 nlo e3 hL hlen hP => ?_⟩
      case hv =>
        refine eps_cons bs_st (bs_tup (by decide) (by decide)) ?_
        refine eps_cons bs_st (bs_tup (by decide) (by decide)) ?_
        refine eps_cons bs_st (bs_tup (by decide) (by decide)) ?_
        refine eps_cons bs_st (bs_tup (by decide) (by decide)) ?_
        exact eps_nil
      have D3 := D2.keep e3
      refine ⟨q, c, ns, i, r, lo, vs, rfl, D3, by omega, SqL.of hL, by omega, by omega, ne_of hL D3.hp (by intro z; cases z), fun xb i4 r4 H4 hxb j0 j1 s4 D4 => ?_⟩
      obtain ⟨b, br, bc, rfl, hb, b1, b2⟩ := hP xb hxb
      have hb4 := (ka_sib D3 s4).tup hb
      have T4 := tabs_sib D3.hp s4 (T2.ext e3)
      refine q_asgK ?_
      refine ⟨_, rfl, _, rfl, _, rfl, q, c, ns, i4, r4, rfl, D4, by omega, fun ls i5 r5 H5 so5 ok5 j2 j3 s5 D5 => ?_⟩
      refine ⟨by show 3 ≤ sizeLine; decide, fun sl nsl => ?_⟩
      have T5 := tabs_sib D4.hp s5 T4
      have hb5 := (ka_sib D4 s5).tup hb4
      have e6 := Ex.new (o := HO.lst [.non, .non, .str (S ls)]) nsl
      have hsl : (upd H5 sl (HO.lst [.non, .non, .str (S ls)])) sl = some (.lst [.non, .non, .str (S ls)]) := upd_same
      have D6 := D5.keep e6
      have T6 := T5.ext e6
      have hb6 := e6 _ _ hb5
      have nc : sl ≠ c := fun z => by
        rw [z, D5.hc] at nsl
        cases nsl
      generalize (upd H5 sl (HO.lst [.non, .non, .str (S ls)])) = H6 at *
      refine ⟨q, c, b, sl, ns, i5, r5, br, bc, _, rfl, D6, by omega, hb6, b1, b2, hsl, by show 0 < 3; decide, by show 3 < 2 ^ 29; decide, fun x hx => ?_, nc, fun t A i7 r7 H7 hA oA j4 j5 s7 D7 => ?_⟩
      · simp only [List.mem_cons, List.not_mem_nil, or_false] at hx
        rcases hx with rfl | rfl | rfl
        · exact ⟨none, rfl, trivial, rfl, trivial⟩
        · exact ⟨none, rfl, trivial, rfl, trivial⟩
        · exact ⟨some ls, rfl, so5, ok5, trivial⟩
      have T7 := tabs_sib D6.hp s7 T6
      refine ⟨_, rfl, _, rfl, q, c, t, ns, i7, r7, A, rfl, D7, by omega, hA, oA, T7, fun i8 r8 H8 j6 j7 k8 T8 D8 => ⟨true, rfl, ?_⟩⟩
      dsimp only
      rw [if_neg (by decide)]
      unfold tNext
      dsimp only
      refine ⟨_, rfl, _, rfl, q, c, t, ns, i8, r8, A, rfl, D8, by omega, hA.ka k8, oA, T8, fun i9 r9 H9 j8 j9 k9 T9 D9 => ⟨true, rfl, ?_⟩⟩
      dsimp only
      rw [if_neg (by decide)]
      refine ⟨_, rfl, _, rfl, q, c, t, ns, i9, r9, A, rfl, D9, by omega, (hA.ka k8).ka k9, oA, T9, fun ia ra Ha ja jb ka Ta Da => ⟨true, rfl, ?_⟩⟩
      dsimp only
      rw [if_neg (by decide)]
      exact ⟨ia, ra, _, _, _, rfl, Da, by omega, by omega, Ta⟩
    case done =>
      rintro σ' H' ⟨i, r, x2, x3, x4, rfl, D2, i0, i1, T2⟩
      refine q_asgK ⟨_, rfl, rd_ps (P := ThP) (n := 5) th_st ?hw (by decide) fun lo vs H3 nlo e3 hL hlen hP => ?_⟩
      case hw =>
        refine eps_cons th_st (ep_v ev_c fun _ => .inl rfl) ?_
        refine eps_cons th_st (ep_v ev_c fun _ => .inr (.inl rfl)) ?_
        refine eps_cons th_st (ep_v ev_c fun _ => .inr (.inr (.inl rfl))) ?_
        refine eps_cons th_st (fun H1 e Q q => ⟨by show 1 ≤ sizeLine; decide, fun l nl => q _ _ (Ex.new nl) (.inr (.inr (.inr (.inl ⟨l, rfl, upd_same⟩))))⟩) ?_
        refine eps_cons th_st (fun H1 e Q q => ⟨by show 1 ≤ sizeLine; decide, fun l nl => q _ _ (Ex.new nl) (.inr (.inr (.inr (.inr ⟨l, rfl, upd_same⟩))))⟩) ?_
        exact eps_nil
      have D3 := D2.keep e3
      refine ⟨q, c, ns, i, r, lo, vs, rfl, D3, by omega, SqL.of hL, by omega, by omega, ne_of hL D3.hp (by intro z; cases z), fun x i4 r4 H4 hx j0 j1 s4 D4 => ?_⟩
      have th4 := (hP x hx).ka (ka_sib D3 s4)
      have T4 := tabs_sib D3.hp s4 (T2.ext e3)
      -- told of reading it
      refine ⟨T4, fun H5 eN T5 t0 nt0 => ?_⟩
      have e6 : Ex H5 (upd H5 t0 (.tup [.str "nothing"])) := Ex.new nt0
      have th6 := th4.ka ((ka_extN eN).trans (ka_ex e6))
      have T6 := T5.ext e6
      generalize (upd H5 t0 (.tup [.str "nothing"])) = H6 at *
      obtain ⟨n, dd, kn, ks, _, dp, db, de⟩ := th6.facts (K := K) zC
      refine ⟨_, rfl, x, rfl, .inr ⟨n, kn, ks, fun d H7 e7 nd hd => ?_⟩⟩
      refine ⟨pc.CB, d, _, "BadValue", "value", x, rfl, rfl, hd, .inl ⟨rfl, rfl, rfl⟩, rfl, fun pr hpr => ?_⟩
      have e8 : Ex H7 (upd H7 pr (.tup [.str "BadValue", x])) := Ex.new hpr
      have hp8 : (upd H7 pr (.tup [.str "BadValue", x])) pr = some (.tup [.str "BadValue", x]) := upd_same
      have e68 := Ex.trans e7 e8
      generalize (upd H7 pr (.tup [.str "BadValue", x])) = H8 at *
      refine ⟨_, rfl, by show 2 ≤ sizeLine; decide, fun u nu => ?_⟩
      have e9 : Ex H8 (upd H8 u (.tup [.str "BadValue", x])) := Ex.new nu
      have hu9 : (upd H8 u (.tup [.str "BadValue", x])) u = some (.tup [.str "BadValue", x]) := upd_same
      have hp9 := e9 _ _ hp8
      have e69 := e68.trans e9
      generalize (upd H8 u (.tup [.str "BadValue", x])) = H9 at *
      refine ⟨badD dd, badD dd, .tup (st_of hp9) (.cons (.str _) (.cons (dp _ e69) .nil)), .tup (st_of hu9) (.cons (.str _) (.cons (dp _ e69) .nil)), db, db, ?_⟩
      refine ⟨_, rfl, ?_⟩
      dsimp only
      rw [if_neg (by rw [de]; decide)]
      unfold tNext
      dsimp only
      have th9 := th6.ka (ka_ex e69)
      -- told of its text
      refine ⟨T6.ext e69, fun Ha eNa Ta t1 nt1 => ?_⟩
      have eb : Ex Ha (upd Ha t1 (.tup [.str "nothing"])) := Ex.new nt1
      have thb := th9.ka ((ka_extN eNa).trans (ka_ex eb))
      generalize (upd Ha t1 (.tup [.str "nothing"])) = Hb at *
      obtain ⟨n2, d2, kn2, _, kc2, dp2, db2, de2⟩ := thb.facts (K := K) zC
      refine ⟨_, rfl, x, .type n2, false, rfl, fun H' e' => kn2 H' e', kc2, (fun z => nomatch z), fun _ d Hc ec nd hd => ?_⟩
      refine ⟨pc.CB, d, _, "BadValue", "value", x, rfl, rfl, hd, .inl ⟨rfl, rfl, rfl⟩, rfl, fun pr2 hpr2 => ?_⟩
      have ed : Ex Hc (upd Hc pr2 (.tup [.str "BadValue", x])) := Ex.new hpr2
      have hpd : (upd Hc pr2 (.tup [.str "BadValue", x])) pr2 = some (.tup [.str "BadValue", x]) := upd_same
      have ebd := Ex.trans ec ed
      generalize (upd Hc pr2 (.tup [.str "BadValue", x])) = Hd at *
      refine ⟨_, rfl, by show 2 ≤ sizeLine; decide, fun u2 nu2 => ?_⟩
      have ee : Ex Hd (upd Hd u2 (.tup [.str "BadValue", x])) := Ex.new nu2
      have hue : (upd Hd u2 (.tup [.str "BadValue", x])) u2 = some (.tup [.str "BadValue", x]) := upd_same
      have hpe := ee _ _ hpd
      have ebe := ebd.trans ee
      generalize (upd Hd u2 (.tup [.str "BadValue", x])) = He at *
      refine ⟨badD d2, badD d2, .tup (st_of hpe) (.cons (.str _) (.cons (dp2 _ ebe) .nil)), .tup (st_of hue) (.cons (.str _) (.cons (dp2 _ ebe) .nil)), db2, db2, ?_⟩
      rw [de2]
      exact k He
end
end K18

set_option Elab.async false
set_option linter.all false
set_option maxRecDepth 100000
set_option maxHeartbeats 4000000
namespace K18
open PySem PySem.Spec PyProof.Rows L2 Pen EV2 Evl TX LamX
section
variable {P : Program} {w : World} {K : PySem.W.Frag} {mg : Str → Option Value} {base : Heap} {ph : AdL} {pc : Ads} {pg : AdG} {pa : AdC} {D : Addr} {p : AdR} {px : AdX} {mv mc mr ma : List Value} {pn6 : AdN6} {pn : AdN} {p2 : AdN2} {p3 : AdN3} {p4 : AdN4} {p5 : AdN5} {pl : AdW} {py : AdY} {CO CM iO iM fT NR : Addr} {dO dM dT : FuncData} {TT : List (Addr × Str)}
/-- the whole law, from the texts of its defs and its three tables of codes -/
theorem law_ok (TC : TxtC K mg pc) (TG : TxtG K mg pg) (TA : TxtA6 K mg pc.S pa) (Z : TxtB K mg pa D) (TR : TxtR K mg p) (MK : TxtK K pa p mv) (MX : TxtD K pa p mc mr ma) (ME : TxtE K p NR) (TN6 : TxtN6 K mg pn6) (TN : TxtN K mg pn) (T2 : TxtN2 K mg p2) (TN3 : TxtN3 K mg p3) (TN4 : TxtN4 K mg p4) (TN5 : TxtN5 K mg p5) (TH : TxtH K mg ph) (TL : TxtL K mg pl) (TX : TxtX K mg px) (TY : TxtY K mg py) (R : TxtRk K mg pc CO CM iO iM dO dM fT dT)
    (kAA : PySem.W.kitOne K (.ref p.CA) (.ref p.CA) = some true) (zC : ∀ n ∈ ["NoneType", "int", "bool", "list", "tuple"], PySem.W.kitOne K (.type n) (.ref p.CA) = some false) {cI cS cL PI PS PL f : Addr} {fd : FuncData}
    (FI : FunC K "_law_in_order" "_law_in_order" s_l_in_order pl.f_in_order cI pl.d_in_order) (hTI : TabB base mg cI PI) (hmI : (PI, qOf "_law_in_order") ∈ TT) (huI : ∀ x ∈ TT, x.1 = PI → x.2 = qOf "_law_in_order")
    (FS : FunC K "_law_spoilt_right" "_law_spoilt_right" s_l_spoilt_right py.f_l_spoilt_right cS py.d_l_spoilt_right) (hTS : TabB base mg cS PS) (hmS : (PS, qOf "_law_spoilt_right") ∈ TT) (huS : ∀ x ∈ TT, x.1 = PS → x.2 = qOf "_law_spoilt_right")
    (FL : FunC K "law" "law" s_law f cL fd) (hTL : TabB base mg cL PL) (hmL : (PL, qOf "law") ∈ TT) (huL : ∀ x ∈ TT, x.1 = PL → x.2 = qOf "law") : FnOk P w K mg base CX0 18 f fd P_law (spLaw K TT) := by
  have G := ok_l_in_order (P := P) (w := w) (base := base) (pl := pl) (TT := TT) TH FI hTI hmI huI
  have GN : FnOk P w K mg base CX0 6 pl.f_normal pl.d_normal P_l_normal (spNormal TT) := ok_l_normal TH TL G
  have GR : FnOk P w K mg base CX0 7 py.f_l_area_read py.d_l_area_read P_l_area_read (spARL TT) := ok_l_area_read TH T2 TN3 TN5 TL TY GN
  exact ok_law TC TG TA Z TR MK MX TN4 TH TL TX TY R zC (ok_l_text_right TC TG TA Z TR MK MX ME TN6 TN TH TL TX TY kAA GN) (ok_l_spoilt_right TC TG TA Z TR MK MX TN6 TN TN5 TH TL TX TY R GN GR FS hTS hmS huS) FL hTL hmL huL
end
end K18

set_option Elab.async false
set_option linter.all false
set_option maxRecDepth 100000
set_option maxHeartbeats 4000000
namespace K18
open PySem PySem.Spec PyProof.Rows L2 Pen EV2 Evl TX LamX
theorem kitA {K : PySem.W.Frag} {C N : Addr} {nm q : Str} {bs sub : List Value} {hd : Bool} {sn : List Str} {ab : Bool} {col : Option Bool} {dd : Option Addr} {k0 k1 k2 k3 k5 : Option Value} {nw : String} (L : K.lookup C = some (excClassObj nm q C N bs [.type "object"] hd sn sub ab col dd k0 k1 k2 k3 k5 nw)) (ty : PySem.W.typeIn K (.ref C) = some (.type "type")) {n : String} (s : PySem.W.subIn K (.type n) (.ref C) = some false) : PySem.W.kitOne K (.type n) (.ref C) = some false := by
  have z : (PySem.W.clsIn K C).isSome = true := by
    unfold PySem.W.clsIn
    rw [L] <;> rfl
  unfold PySem.W.kitOne
  rw [if_neg (by simp)]
  unfold PySem.W.kitCls
  dsimp only
  rw [z, ty]
  simpa using s
theorem all_mk {l : PySem.W.OpenLaw} {w : World} {K : PySem.W.Frag} {h : Heap} {mg : Str → Option Value} {fa S C_B f_B C_N f_N C_M f_M C_O f_O C_A N_A i_at_A D_A m_A___eq__ C_R N_R i_at_R D_R m_R___eq__ m_R_has m_R_common m_R_without m_R_cells m_R__part aS g_is_integer g_check_range g_check_string g_check_integer g_check_truth g_is_on_grid g_is_sheet_name g_small_letters g_alike_sheets g_letters_of g_column_of g_is_letters g_is_column_text g_is_row_text g_split_cell g_check_address g_check_area g_may_meet g__ordered g_marked_address g_area_between g_address_text g_read_address g_corner_text g_corners_text g_area_text g_read_area g__read_corner g_l_pen g_l_draw g_l_pick g_l_signs g_l_letters g_l_column g_l_is_letters g_l_is_digits g_l_mixed_case g_l_is_sheet g_l_sheet_name g_l_told g_l_spoilt g_l_made g_l_row_text g_l_column_text g_l_sheet_text g_l_is g_l_read_row g_l_read_column g_l_read_cell g_l_parted g_l_corners g_l_in_order g_l_area g_l_normal g_l_corner g_l_area_made g_l_is_area g_l_corner_text g_l_area_text g_l_area_read g_l_text_right g_l_spoilt_right g_law c_I c_P c_L : Addr} (tI tP tL : Addr)
    (X : K.In h) (G : h.Ns mainGlobals mg) (hfa : mg "law" = some (.ref fa))
    (a_S : PySem.W.nsIn K mainGlobals "SheetError" = some (some (.ref S)))
    (a_B : PySem.W.nsIn K mainGlobals "BadValue" = some (some (.ref C_B)))
    {nm_B q_B : Str} {N_B : Addr} {bs_B sub_B : List Value} {sn_B : List Str} {ab_B : Bool} {col_B : Option Bool} {dd_B : Option Addr} {k0_B k1_B k2_B k3_B k5_B : Option Value}
    (L_B : K.lookup C_B = some (excClassObj nm_B q_B C_B N_B bs_B (BM S) true sn_B sub_B ab_B col_B dd_B k0_B k1_B k2_B k3_B k5_B "ValueError.__new__"))
    (hg_B : PySem.W.findIn K (.ref C_B) "__getattribute__" = some (some (.builtin "BaseException.__getattribute__")))
    (hk_B : PySem.W.findIn K (.ref C_B) "__getattr__" = some none)
    (no0_B : PySem.W.findIn K (.ref C_B) "value" = some none)
    (i_B : PySem.W.findIn K (.ref C_B) "__init__" = some (some (.ref f_B)))
    (kC_B : PySem.W.keepIn K (.ref C_B) = true)
    (sa_B : PySem.W.findIn K (.ref C_B) "__setattr__" = some (some (.builtin "object.__setattr__")))
    (ty_B : PySem.W.typeIn K (.ref f_B) = some (.type "function"))
    {oc_iB kV_iB dc_iB pm_iB ct_iB cd_iB : Value} {od_iB an_iB : Option Addr} {sl_iB : Array (Option Value)}
    (l_iB : K.lookup f_B = some ⟨oc_iB, od_iB, .func (PySem.W.fnOf "__init__" "BadValue.__init__" (defArgs s_BadValue_init) (defBody s_BadValue_init) (defScope s_BadValue_init) .none kV_iB dc_iB pm_iB an_iB cd_iB ct_iB), sl_iB⟩)
    (c_iB : PySem.W.codeIn K cd_iB "BadValue.__init__" = true)
    (k_iB : PySem.W.keepIn K (.ref f_B) = true)
    (a_N : PySem.W.nsIn K mainGlobals "NotAName" = some (some (.ref C_N)))
    {nm_N q_N : Str} {N_N : Addr} {bs_N sub_N : List Value} {sn_N : List Str} {ab_N : Bool} {col_N : Option Bool} {dd_N : Option Addr} {k0_N k1_N k2_N k3_N k5_N : Option Value}
    (L_N : K.lookup C_N = some (excClassObj nm_N q_N C_N N_N bs_N (BM S) true sn_N sub_N ab_N col_N dd_N k0_N k1_N k2_N k3_N k5_N "ValueError.__new__"))
    (hg_N : PySem.W.findIn K (.ref C_N) "__getattribute__" = some (some (.builtin "BaseException.__getattribute__")))
    (hk_N : PySem.W.findIn K (.ref C_N) "__getattr__" = some none)
    (no0_N : PySem.W.findIn K (.ref C_N) "name" = some none)
    (i_N : PySem.W.findIn K (.ref C_N) "__init__" = some (some (.ref f_N)))
    (kC_N : PySem.W.keepIn K (.ref C_N) = true)
    (sa_N : PySem.W.findIn K (.ref C_N) "__setattr__" = some (some (.builtin "object.__setattr__")))
    (ty_N : PySem.W.typeIn K (.ref f_N) = some (.type "function"))
    {oc_iN kV_iN dc_iN pm_iN ct_iN cd_iN : Value} {od_iN an_iN : Option Addr} {sl_iN : Array (Option Value)}
    (l_iN : K.lookup f_N = some ⟨oc_iN, od_iN, .func (PySem.W.fnOf "__init__" "NotAName.__init__" (defArgs s_NotAName_init) (defBody s_NotAName_init) (defScope s_NotAName_init) .none kV_iN dc_iN pm_iN an_iN cd_iN ct_iN), sl_iN⟩)
    (c_iN : PySem.W.codeIn K cd_iN "NotAName.__init__" = true)
    (k_iN : PySem.W.keepIn K (.ref f_N) = true)
    (a_M : PySem.W.nsIn K mainGlobals "TooMany" = some (some (.ref C_M)))
    {nm_M q_M : Str} {N_M : Addr} {bs_M sub_M : List Value} {sn_M : List Str} {ab_M : Bool} {col_M : Option Bool} {dd_M : Option Addr} {k0_M k1_M k2_M k3_M k5_M : Option Value}
    (L_M : K.lookup C_M = some (excClassObj nm_M q_M C_M N_M bs_M (BM S) true sn_M sub_M ab_M col_M dd_M k0_M k1_M k2_M k3_M k5_M "ValueError.__new__"))
    (hg_M : PySem.W.findIn K (.ref C_M) "__getattribute__" = some (some (.builtin "BaseException.__getattribute__")))
    (hk_M : PySem.W.findIn K (.ref C_M) "__getattr__" = some none)
    (no0_M : PySem.W.findIn K (.ref C_M) "most" = some none)
    (i_M : PySem.W.findIn K (.ref C_M) "__init__" = some (some (.ref f_M)))
    (kC_M : PySem.W.keepIn K (.ref C_M) = true)
    (sa_M : PySem.W.findIn K (.ref C_M) "__setattr__" = some (some (.builtin "object.__setattr__")))
    (ty_M : PySem.W.typeIn K (.ref f_M) = some (.type "function"))
    {oc_iM kV_iM dc_iM pm_iM ct_iM cd_iM : Value} {od_iM an_iM : Option Addr} {sl_iM : Array (Option Value)}
    (l_iM : K.lookup f_M = some ⟨oc_iM, od_iM, .func (PySem.W.fnOf "__init__" "TooMany.__init__" (defArgs s_TooMany_init) (defBody s_TooMany_init) (defScope s_TooMany_init) .none kV_iM dc_iM pm_iM an_iM cd_iM ct_iM), sl_iM⟩)
    (c_iM : PySem.W.codeIn K cd_iM "TooMany.__init__" = true)
    (k_iM : PySem.W.keepIn K (.ref f_M) = true)
    (a_O : PySem.W.nsIn K mainGlobals "OffGrid" = some (some (.ref C_O)))
    {nm_O q_O : Str} {N_O : Addr} {bs_O sub_O : List Value} {sn_O : List Str} {ab_O : Bool} {col_O : Option Bool} {dd_O : Option Addr} {k0_O k1_O k2_O k3_O k5_O : Option Value}
    (L_O : K.lookup C_O = some (excClassObj nm_O q_O C_O N_O bs_O (BM S) true sn_O sub_O ab_O col_O dd_O k0_O k1_O k2_O k3_O k5_O "ValueError.__new__"))
    (hg_O : PySem.W.findIn K (.ref C_O) "__getattribute__" = some (some (.builtin "BaseException.__getattribute__")))
    (hk_O : PySem.W.findIn K (.ref C_O) "__getattr__" = some none)
    (no0_O : PySem.W.findIn K (.ref C_O) "row" = some none)
    (no1_O : PySem.W.findIn K (.ref C_O) "column" = some none)
    (i_O : PySem.W.findIn K (.ref C_O) "__init__" = some (some (.ref f_O)))
    (kC_O : PySem.W.keepIn K (.ref C_O) = true)
    (sa_O : PySem.W.findIn K (.ref C_O) "__setattr__" = some (some (.builtin "object.__setattr__")))
    (ty_O : PySem.W.typeIn K (.ref f_O) = some (.type "function"))
    {oc_iO kV_iO dc_iO pm_iO ct_iO cd_iO : Value} {od_iO an_iO : Option Addr} {sl_iO : Array (Option Value)}
    (l_iO : K.lookup f_O = some ⟨oc_iO, od_iO, .func (PySem.W.fnOf "__init__" "OffGrid.__init__" (defArgs s_OffGrid_init) (defBody s_OffGrid_init) (defScope s_OffGrid_init) .none kV_iO dc_iO pm_iO an_iO cd_iO ct_iO), sl_iO⟩)
    (c_iO : PySem.W.codeIn K cd_iO "OffGrid.__init__" = true)
    (k_iO : PySem.W.keepIn K (.ref f_O) = true)
    (nBN : C_B ≠ C_N)
    (nMB : C_M ≠ C_B)
    (nMN : C_M ≠ C_N)
    (nMO : C_M ≠ C_O)
    (nNB : C_N ≠ C_B)
    (nBS : C_B ≠ S)
    (nNS : C_N ≠ S)
    (nMS : C_M ≠ S)
    (nOS : C_O ≠ S)
    (hn : PySem.W.specialIn K (.builtin "object.__class__") "__get__" = some (some (.builtin "getset_descriptor.__get__")))
    (ht : PySem.W.takesIn K (.builtin "object.__class__") = some true)
    (a_A : PySem.W.nsIn K mainGlobals "Address" = some (some (.ref C_A)))
    {nm_A q_A : Str} {hd_A : Bool} {bs_A sub_A : List Value} {sn_A : List Str} {ab_A : Bool} {col_A : Option Bool} {dd_A : Option Addr} {k0_A k1_A k2_A k3_A k5_A : Option Value} {new_A : String}
    (L_A : K.lookup C_A = some (excClassObj nm_A q_A C_A N_A bs_A [.type "object"] hd_A sn_A sub_A ab_A col_A dd_A k0_A k1_A k2_A k3_A k5_A new_A))
    (pg_A : PySem.W.plainGet K C_A Str.empty = true)
    (hd2_A : PySem.W.hasDictIn K C_A = true)
    (po_A : PySem.W.plainOver K C_A = true)
    (sa_A : PySem.W.findIn K (.ref C_A) "__setattr__" = some (some (.builtin "object.__setattr__")))
    (nA_A_row : PySem.W.findIn K (.ref C_A) "row" = some none)
    (nA_A_column : PySem.W.findIn K (.ref C_A) "column" = some none)
    (nA_A_fixed_row : PySem.W.findIn K (.ref C_A) "fixed_row" = some none)
    (nA_A_fixed_column : PySem.W.findIn K (.ref C_A) "fixed_column" = some none)
    (nA_A_sheet : PySem.W.findIn K (.ref C_A) "sheet" = some none)
    (mk_A : PySem.W.makesIn K C_A = true)
    (i_A : PySem.W.findIn K (.ref C_A) "__init__" = some (some (.ref i_at_A)))
    (if_A : PySem.W.isFn K (.ref i_at_A) = true)
    (kC_A : PySem.W.keepIn K (.ref C_A) = true)
    (ha_A : PySem.W.findIn K (.ref C_A) "__class__" = some (some (.builtin "object.__class__")))
    (hm_A : PySem.W.mroIn K C_A (.type "object") = some true)
    (ok_A : PySem.W.nsOkIn K N_A = true)
    {oc_iA dc_iA pm_iA ct_iA cd_iA : Value} {od_iA an_iA : Option Addr} {sl_iA : Array (Option Value)}
    (l_iA : K.lookup i_at_A = some ⟨oc_iA, od_iA, .func (PySem.W.fnOf "__init__" "Address.__init__" (defArgs s_Address_init) (defBody s_Address_init) (defScope s_Address_init) .none (.ref D_A) dc_iA pm_iA an_iA cd_iA ct_iA), sl_iA⟩)
    (c_iA : PySem.W.codeIn K cd_iA "Address.__init__" = true)
    (k_iA : PySem.W.keepIn K (.ref i_at_A) = true)
    (d_A_fixed_row : PySem.W.nsIn K D_A "fixed_row" = some (some (.bool false)))
    (d_A_fixed_column : PySem.W.nsIn K D_A "fixed_column" = some (some (.bool false)))
    (d_A_sheet : PySem.W.nsIn K D_A "sheet" = some (some (.none)))
    (tyT_A : PySem.W.typeIn K (.ref C_A) = some (.type "type"))
    (f_A___eq__ : PySem.W.findIn K (.ref C_A) "__eq__" = some (some (.ref m_A___eq__)))
    (if_A___eq__ : PySem.W.isFn K (.ref m_A___eq__) = true)
    {kV_A___eq__ dc_A___eq__ pm_A___eq__ ct_A___eq__ cd_A___eq__ : Value} {od_A___eq__ an_A___eq__ : Option Addr} {sl_A___eq__ : Array (Option Value)}
    (l_A___eq__ : K.lookup m_A___eq__ = some ⟨(.type "function"), od_A___eq__, .func (PySem.W.fnOf "__eq__" "Address.__eq__" (defArgs s_Address___eq__) (defBody s_Address___eq__) (defScope s_Address___eq__) .none kV_A___eq__ dc_A___eq__ pm_A___eq__ an_A___eq__ cd_A___eq__ ct_A___eq__), sl_A___eq__⟩)
    (c_A___eq__ : PySem.W.codeIn K cd_A___eq__ "Address.__eq__" = true)
    (k_A___eq__ : PySem.W.keepIn K (.ref m_A___eq__) = true)
    (eq_A : PySem.W.nsIn K N_A "__eq__" = some (some (.ref m_A___eq__)))
    (ne_A : PySem.W.nsIn K N_A "__ne__" = some none)
    (y1_A_str : PySem.W.subIn K (.type "str") (.ref C_A) = some false)
    (a_R : PySem.W.nsIn K mainGlobals "Area" = some (some (.ref C_R)))
    {nm_R q_R : Str} {hd_R : Bool} {bs_R sub_R : List Value} {sn_R : List Str} {ab_R : Bool} {col_R : Option Bool} {dd_R : Option Addr} {k0_R k1_R k2_R k3_R k5_R : Option Value} {new_R : String}
    (L_R : K.lookup C_R = some (excClassObj nm_R q_R C_R N_R bs_R [.type "object"] hd_R sn_R sub_R ab_R col_R dd_R k0_R k1_R k2_R k3_R k5_R new_R))
    (pg_R : PySem.W.plainGet K C_R Str.empty = true)
    (hd2_R : PySem.W.hasDictIn K C_R = true)
    (po_R : PySem.W.plainOver K C_R = true)
    (sa_R : PySem.W.findIn K (.ref C_R) "__setattr__" = some (some (.builtin "object.__setattr__")))
    (nA_R_first : PySem.W.findIn K (.ref C_R) "first" = some none)
    (nA_R_last : PySem.W.findIn K (.ref C_R) "last" = some none)
    (nA_R_whole : PySem.W.findIn K (.ref C_R) "whole" = some none)
    (nA_R_sheet : PySem.W.findIn K (.ref C_R) "sheet" = some none)
    (nA_R_height : PySem.W.findIn K (.ref C_R) "height" = some none)
    (nA_R_width : PySem.W.findIn K (.ref C_R) "width" = some none)
    (mk_R : PySem.W.makesIn K C_R = true)
    (i_R : PySem.W.findIn K (.ref C_R) "__init__" = some (some (.ref i_at_R)))
    (if_R : PySem.W.isFn K (.ref i_at_R) = true)
    (kC_R : PySem.W.keepIn K (.ref C_R) = true)
    (ha_R : PySem.W.findIn K (.ref C_R) "__class__" = some (some (.builtin "object.__class__")))
    (hm_R : PySem.W.mroIn K C_R (.type "object") = some true)
    (ok_R : PySem.W.nsOkIn K N_R = true)
    {oc_iR dc_iR pm_iR ct_iR cd_iR : Value} {od_iR an_iR : Option Addr} {sl_iR : Array (Option Value)}
    (l_iR : K.lookup i_at_R = some ⟨oc_iR, od_iR, .func (PySem.W.fnOf "__init__" "Area.__init__" (defArgs s_Area_init) (defBody s_Area_init) (defScope s_Area_init) .none (.ref D_R) dc_iR pm_iR an_iR cd_iR ct_iR), sl_iR⟩)
    (c_iR : PySem.W.codeIn K cd_iR "Area.__init__" = true)
    (k_iR : PySem.W.keepIn K (.ref i_at_R) = true)
    (d_R_whole : PySem.W.nsIn K D_R "whole" = some (some (.none)))
    (tyT_R : PySem.W.typeIn K (.ref C_R) = some (.type "type"))
    (f_R___eq__ : PySem.W.findIn K (.ref C_R) "__eq__" = some (some (.ref m_R___eq__)))
    (if_R___eq__ : PySem.W.isFn K (.ref m_R___eq__) = true)
    {kV_R___eq__ dc_R___eq__ pm_R___eq__ ct_R___eq__ cd_R___eq__ : Value} {od_R___eq__ an_R___eq__ : Option Addr} {sl_R___eq__ : Array (Option Value)}
    (l_R___eq__ : K.lookup m_R___eq__ = some ⟨(.type "function"), od_R___eq__, .func (PySem.W.fnOf "__eq__" "Area.__eq__" (defArgs s_Area___eq__) (defBody s_Area___eq__) (defScope s_Area___eq__) .none kV_R___eq__ dc_R___eq__ pm_R___eq__ an_R___eq__ cd_R___eq__ ct_R___eq__), sl_R___eq__⟩)
    (c_R___eq__ : PySem.W.codeIn K cd_R___eq__ "Area.__eq__" = true)
    (k_R___eq__ : PySem.W.keepIn K (.ref m_R___eq__) = true)
    (f_R_has : PySem.W.findIn K (.ref C_R) "has" = some (some (.ref m_R_has)))
    (if_R_has : PySem.W.isFn K (.ref m_R_has) = true)
    {kV_R_has dc_R_has pm_R_has ct_R_has cd_R_has : Value} {od_R_has an_R_has : Option Addr} {sl_R_has : Array (Option Value)}
    (l_R_has : K.lookup m_R_has = some ⟨(.type "function"), od_R_has, .func (PySem.W.fnOf "has" "Area.has" (defArgs s_Area_has) (defBody s_Area_has) (defScope s_Area_has) .none kV_R_has dc_R_has pm_R_has an_R_has cd_R_has ct_R_has), sl_R_has⟩)
    (c_R_has : PySem.W.codeIn K cd_R_has "Area.has" = true)
    (k_R_has : PySem.W.keepIn K (.ref m_R_has) = true)
    (f_R_common : PySem.W.findIn K (.ref C_R) "common" = some (some (.ref m_R_common)))
    (if_R_common : PySem.W.isFn K (.ref m_R_common) = true)
    {kV_R_common dc_R_common pm_R_common ct_R_common cd_R_common : Value} {od_R_common an_R_common : Option Addr} {sl_R_common : Array (Option Value)}
    (l_R_common : K.lookup m_R_common = some ⟨(.type "function"), od_R_common, .func (PySem.W.fnOf "common" "Area.common" (defArgs s_Area_common) (defBody s_Area_common) (defScope s_Area_common) .none kV_R_common dc_R_common pm_R_common an_R_common cd_R_common ct_R_common), sl_R_common⟩)
    (c_R_common : PySem.W.codeIn K cd_R_common "Area.common" = true)
    (k_R_common : PySem.W.keepIn K (.ref m_R_common) = true)
    (f_R_without : PySem.W.findIn K (.ref C_R) "without" = some (some (.ref m_R_without)))
    (if_R_without : PySem.W.isFn K (.ref m_R_without) = true)
    {kV_R_without dc_R_without pm_R_without ct_R_without cd_R_without : Value} {od_R_without an_R_without : Option Addr} {sl_R_without : Array (Option Value)}
    (l_R_without : K.lookup m_R_without = some ⟨(.type "function"), od_R_without, .func (PySem.W.fnOf "without" "Area.without" (defArgs s_Area_without) (defBody s_Area_without) (defScope s_Area_without) .none kV_R_without dc_R_without pm_R_without an_R_without cd_R_without ct_R_without), sl_R_without⟩)
    (c_R_without : PySem.W.codeIn K cd_R_without "Area.without" = true)
    (k_R_without : PySem.W.keepIn K (.ref m_R_without) = true)
    (f_R_cells : PySem.W.findIn K (.ref C_R) "cells" = some (some (.ref m_R_cells)))
    (if_R_cells : PySem.W.isFn K (.ref m_R_cells) = true)
    {kV_R_cells dc_R_cells pm_R_cells ct_R_cells cd_R_cells : Value} {od_R_cells an_R_cells : Option Addr} {sl_R_cells : Array (Option Value)}
    (l_R_cells : K.lookup m_R_cells = some ⟨(.type "function"), od_R_cells, .func (PySem.W.fnOf "cells" "Area.cells" (defArgs s_Area_cells) (defBody s_Area_cells) (defScope s_Area_cells) .none kV_R_cells dc_R_cells pm_R_cells an_R_cells cd_R_cells ct_R_cells), sl_R_cells⟩)
    (c_R_cells : PySem.W.codeIn K cd_R_cells "Area.cells" = true)
    (k_R_cells : PySem.W.keepIn K (.ref m_R_cells) = true)
    (f_R__part : PySem.W.findIn K (.ref C_R) "_part" = some (some (.ref m_R__part)))
    (if_R__part : PySem.W.isFn K (.ref m_R__part) = true)
    {kV_R__part dc_R__part pm_R__part ct_R__part cd_R__part : Value} {od_R__part an_R__part : Option Addr} {sl_R__part : Array (Option Value)}
    (l_R__part : K.lookup m_R__part = some ⟨(.type "function"), od_R__part, .func (PySem.W.fnOf "_part" "Area._part" (defArgs s_Area__part) (defBody s_Area__part) (defScope s_Area__part) .none kV_R__part dc_R__part pm_R__part an_R__part cd_R__part ct_R__part), sl_R__part⟩)
    (c_R__part : PySem.W.codeIn K cd_R__part "Area._part" = true)
    (k_R__part : PySem.W.keepIn K (.ref m_R__part) = true)
    (eq_R : PySem.W.nsIn K N_R "__eq__" = some (some (.ref m_R___eq__)))
    (ne_R : PySem.W.nsIn K N_R "__ne__" = some none)
    (y1_R_NoneType : PySem.W.subIn K (.type "NoneType") (.ref C_R) = some false)
    (y1_R_int : PySem.W.subIn K (.type "int") (.ref C_R) = some false)
    (y1_R_bool : PySem.W.subIn K (.type "bool") (.ref C_R) = some false)
    (y1_R_list : PySem.W.subIn K (.type "list") (.ref C_R) = some false)
    (y1_R_tuple : PySem.W.subIn K (.type "tuple") (.ref C_R) = some false)
    {tk_COL : Tok}
    (a_COL : PySem.W.nsIn K mainGlobals "COLUMNS" = some (some (.int 18278 tk_COL)))
    {tk_ROWS : Tok}
    (a_ROWS : PySem.W.nsIn K mainGlobals "ROWS" = some (some (.int 1000000 tk_ROWS)))
    {tk_MOST : Tok}
    (a_MOST : PySem.W.nsIn K mainGlobals "MOST_CELLS" = some (some (.int 10000 tk_MOST)))
    {tk_LET : Tok}
    (a_LET : PySem.W.nsIn K mainGlobals "_LETTERS" = some (some (.str "ABCDEFGHIJKLMNOPQRSTUVWXYZ" tk_LET)))
    {tkA tkB : Tok} {odS : Option Addr} {slS : Array (Option Value)} {nS : Nat}
    (a_SORTS : PySem.W.nsIn K mainGlobals "SORTS" = some (some (.ref aS)))
    (l_SORTS : K.lookup aS = some { cls := .type "tuple", dict := odS, data := .seq #[.none, .str "columns" tkA, .str "rows" tkB] nS, slots := slS })
    (z_list : PySem.W.nsIn K mainGlobals "list" = some none)
    (z_int : PySem.W.nsIn K mainGlobals "int" = some none)
    (z_len : PySem.W.nsIn K mainGlobals "len" = some none)
    (z_range : PySem.W.nsIn K mainGlobals "range" = some none)
    (z_min : PySem.W.nsIn K mainGlobals "min" = some none)
    (z_max : PySem.W.nsIn K mainGlobals "max" = some none)
    (z_sorted : PySem.W.nsIn K mainGlobals "sorted" = some none)
    (z_isinstance : PySem.W.nsIn K mainGlobals "isinstance" = some none)
    (z_tuple : PySem.W.nsIn K mainGlobals "tuple" = some none)
    (z_bool : PySem.W.nsIn K mainGlobals "bool" = some none)
    (z_str : PySem.W.nsIn K mainGlobals "str" = some none)
    (z_divmod : PySem.W.nsIn K mainGlobals "divmod" = some none)
    (a_is_integer : PySem.W.nsIn K mainGlobals "is_integer" = some (some (.ref g_is_integer)))
    {oc_is_integer kV_is_integer dc_is_integer pm_is_integer ct_is_integer cd_is_integer : Value} {od_is_integer an_is_integer : Option Addr} {sl_is_integer : Array (Option Value)}
    (l_is_integer : K.lookup g_is_integer = some ⟨oc_is_integer, od_is_integer, .func (PySem.W.fnOf "is_integer" "is_integer" (defArgs s_is_integer) (defBody s_is_integer) (defScope s_is_integer) .none kV_is_integer dc_is_integer pm_is_integer an_is_integer cd_is_integer ct_is_integer), sl_is_integer⟩)
    (c_is_integer : PySem.W.codeIn K cd_is_integer "is_integer" = true)
    (k_is_integer : PySem.W.keepIn K (.ref g_is_integer) = true)
    (a_check_range : PySem.W.nsIn K mainGlobals "check_range" = some (some (.ref g_check_range)))
    {oc_check_range kV_check_range dc_check_range pm_check_range ct_check_range cd_check_range : Value} {od_check_range an_check_range : Option Addr} {sl_check_range : Array (Option Value)}
    (l_check_range : K.lookup g_check_range = some ⟨oc_check_range, od_check_range, .func (PySem.W.fnOf "check_range" "check_range" (defArgs s_check_range) (defBody s_check_range) (defScope s_check_range) .none kV_check_range dc_check_range pm_check_range an_check_range cd_check_range ct_check_range), sl_check_range⟩)
    (c_check_range : PySem.W.codeIn K cd_check_range "check_range" = true)
    (k_check_range : PySem.W.keepIn K (.ref g_check_range) = true)
    (a_check_string : PySem.W.nsIn K mainGlobals "check_string" = some (some (.ref g_check_string)))
    {oc_check_string kV_check_string dc_check_string pm_check_string ct_check_string cd_check_string : Value} {od_check_string an_check_string : Option Addr} {sl_check_string : Array (Option Value)}
    (l_check_string : K.lookup g_check_string = some ⟨oc_check_string, od_check_string, .func (PySem.W.fnOf "check_string" "check_string" (defArgs s_check_string) (defBody s_check_string) (defScope s_check_string) .none kV_check_string dc_check_string pm_check_string an_check_string cd_check_string ct_check_string), sl_check_string⟩)
    (c_check_string : PySem.W.codeIn K cd_check_string "check_string" = true)
    (k_check_string : PySem.W.keepIn K (.ref g_check_string) = true)
    (a_check_integer : PySem.W.nsIn K mainGlobals "check_integer" = some (some (.ref g_check_integer)))
    {oc_check_integer kV_check_integer dc_check_integer pm_check_integer ct_check_integer cd_check_integer : Value} {od_check_integer an_check_integer : Option Addr} {sl_check_integer : Array (Option Value)}
    (l_check_integer : K.lookup g_check_integer = some ⟨oc_check_integer, od_check_integer, .func (PySem.W.fnOf "check_integer" "check_integer" (defArgs s_check_integer) (defBody s_check_integer) (defScope s_check_integer) .none kV_check_integer dc_check_integer pm_check_integer an_check_integer cd_check_integer ct_check_integer), sl_check_integer⟩)
    (c_check_integer : PySem.W.codeIn K cd_check_integer "check_integer" = true)
    (k_check_integer : PySem.W.keepIn K (.ref g_check_integer) = true)
    (a_check_truth : PySem.W.nsIn K mainGlobals "check_truth" = some (some (.ref g_check_truth)))
    {oc_check_truth kV_check_truth dc_check_truth pm_check_truth ct_check_truth cd_check_truth : Value} {od_check_truth an_check_truth : Option Addr} {sl_check_truth : Array (Option Value)}
    (l_check_truth : K.lookup g_check_truth = some ⟨oc_check_truth, od_check_truth, .func (PySem.W.fnOf "check_truth" "check_truth" (defArgs s_check_truth) (defBody s_check_truth) (defScope s_check_truth) .none kV_check_truth dc_check_truth pm_check_truth an_check_truth cd_check_truth ct_check_truth), sl_check_truth⟩)
    (c_check_truth : PySem.W.codeIn K cd_check_truth "check_truth" = true)
    (k_check_truth : PySem.W.keepIn K (.ref g_check_truth) = true)
    (a_is_on_grid : PySem.W.nsIn K mainGlobals "is_on_grid" = some (some (.ref g_is_on_grid)))
    {oc_is_on_grid kV_is_on_grid dc_is_on_grid pm_is_on_grid ct_is_on_grid cd_is_on_grid : Value} {od_is_on_grid an_is_on_grid : Option Addr} {sl_is_on_grid : Array (Option Value)}
    (l_is_on_grid : K.lookup g_is_on_grid = some ⟨oc_is_on_grid, od_is_on_grid, .func (PySem.W.fnOf "is_on_grid" "is_on_grid" (defArgs s_is_on_grid) (defBody s_is_on_grid) (defScope s_is_on_grid) .none kV_is_on_grid dc_is_on_grid pm_is_on_grid an_is_on_grid cd_is_on_grid ct_is_on_grid), sl_is_on_grid⟩)
    (c_is_on_grid : PySem.W.codeIn K cd_is_on_grid "is_on_grid" = true)
    (k_is_on_grid : PySem.W.keepIn K (.ref g_is_on_grid) = true)
    (a_is_sheet_name : PySem.W.nsIn K mainGlobals "is_sheet_name" = some (some (.ref g_is_sheet_name)))
    {oc_is_sheet_name kV_is_sheet_name dc_is_sheet_name pm_is_sheet_name ct_is_sheet_name cd_is_sheet_name : Value} {od_is_sheet_name an_is_sheet_name : Option Addr} {sl_is_sheet_name : Array (Option Value)}
    (l_is_sheet_name : K.lookup g_is_sheet_name = some ⟨oc_is_sheet_name, od_is_sheet_name, .func (PySem.W.fnOf "is_sheet_name" "is_sheet_name" (defArgs s_is_sheet_name) (defBody s_is_sheet_name) (defScope s_is_sheet_name) .none kV_is_sheet_name dc_is_sheet_name pm_is_sheet_name an_is_sheet_name cd_is_sheet_name ct_is_sheet_name), sl_is_sheet_name⟩)
    (c_is_sheet_name : PySem.W.codeIn K cd_is_sheet_name "is_sheet_name" = true)
    (k_is_sheet_name : PySem.W.keepIn K (.ref g_is_sheet_name) = true)
    (a_small_letters : PySem.W.nsIn K mainGlobals "small_letters" = some (some (.ref g_small_letters)))
    {oc_small_letters kV_small_letters dc_small_letters pm_small_letters ct_small_letters cd_small_letters : Value} {od_small_letters an_small_letters : Option Addr} {sl_small_letters : Array (Option Value)}
    (l_small_letters : K.lookup g_small_letters = some ⟨oc_small_letters, od_small_letters, .func (PySem.W.fnOf "small_letters" "small_letters" (defArgs s_small_letters) (defBody s_small_letters) (defScope s_small_letters) .none kV_small_letters dc_small_letters pm_small_letters an_small_letters cd_small_letters ct_small_letters), sl_small_letters⟩)
    (c_small_letters : PySem.W.codeIn K cd_small_letters "small_letters" = true)
    (k_small_letters : PySem.W.keepIn K (.ref g_small_letters) = true)
    (a_alike_sheets : PySem.W.nsIn K mainGlobals "alike_sheets" = some (some (.ref g_alike_sheets)))
    {oc_alike_sheets kV_alike_sheets dc_alike_sheets pm_alike_sheets ct_alike_sheets cd_alike_sheets : Value} {od_alike_sheets an_alike_sheets : Option Addr} {sl_alike_sheets : Array (Option Value)}
    (l_alike_sheets : K.lookup g_alike_sheets = some ⟨oc_alike_sheets, od_alike_sheets, .func (PySem.W.fnOf "alike_sheets" "alike_sheets" (defArgs s_alike_sheets) (defBody s_alike_sheets) (defScope s_alike_sheets) .none kV_alike_sheets dc_alike_sheets pm_alike_sheets an_alike_sheets cd_alike_sheets ct_alike_sheets), sl_alike_sheets⟩)
    (c_alike_sheets : PySem.W.codeIn K cd_alike_sheets "alike_sheets" = true)
    (k_alike_sheets : PySem.W.keepIn K (.ref g_alike_sheets) = true)
    (a_letters_of : PySem.W.nsIn K mainGlobals "letters_of" = some (some (.ref g_letters_of)))
    {oc_letters_of kV_letters_of dc_letters_of pm_letters_of ct_letters_of cd_letters_of : Value} {od_letters_of an_letters_of : Option Addr} {sl_letters_of : Array (Option Value)}
    (l_letters_of : K.lookup g_letters_of = some ⟨oc_letters_of, od_letters_of, .func (PySem.W.fnOf "letters_of" "letters_of" (defArgs s_letters_of) (defBody s_letters_of) (defScope s_letters_of) .none kV_letters_of dc_letters_of pm_letters_of an_letters_of cd_letters_of ct_letters_of), sl_letters_of⟩)
    (c_letters_of : PySem.W.codeIn K cd_letters_of "letters_of" = true)
    (k_letters_of : PySem.W.keepIn K (.ref g_letters_of) = true)
    (a_column_of : PySem.W.nsIn K mainGlobals "column_of" = some (some (.ref g_column_of)))
    {oc_column_of kV_column_of dc_column_of pm_column_of ct_column_of cd_column_of : Value} {od_column_of an_column_of : Option Addr} {sl_column_of : Array (Option Value)}
    (l_column_of : K.lookup g_column_of = some ⟨oc_column_of, od_column_of, .func (PySem.W.fnOf "column_of" "column_of" (defArgs s_column_of) (defBody s_column_of) (defScope s_column_of) .none kV_column_of dc_column_of pm_column_of an_column_of cd_column_of ct_column_of), sl_column_of⟩)
    (c_column_of : PySem.W.codeIn K cd_column_of "column_of" = true)
    (k_column_of : PySem.W.keepIn K (.ref g_column_of) = true)
    (a_is_letters : PySem.W.nsIn K mainGlobals "is_letters" = some (some (.ref g_is_letters)))
    {oc_is_letters kV_is_letters dc_is_letters pm_is_letters ct_is_letters cd_is_letters : Value} {od_is_letters an_is_letters : Option Addr} {sl_is_letters : Array (Option Value)}
    (l_is_letters : K.lookup g_is_letters = some ⟨oc_is_letters, od_is_letters, .func (PySem.W.fnOf "is_letters" "is_letters" (defArgs s_is_letters) (defBody s_is_letters) (defScope s_is_letters) .none kV_is_letters dc_is_letters pm_is_letters an_is_letters cd_is_letters ct_is_letters), sl_is_letters⟩)
    (c_is_letters : PySem.W.codeIn K cd_is_letters "is_letters" = true)
    (k_is_letters : PySem.W.keepIn K (.ref g_is_letters) = true)
    (a_is_column_text : PySem.W.nsIn K mainGlobals "is_column_text" = some (some (.ref g_is_column_text)))
    {oc_is_column_text kV_is_column_text dc_is_column_text pm_is_column_text ct_is_column_text cd_is_column_text : Value} {od_is_column_text an_is_column_text : Option Addr} {sl_is_column_text : Array (Option Value)}
    (l_is_column_text : K.lookup g_is_column_text = some ⟨oc_is_column_text, od_is_column_text, .func (PySem.W.fnOf "is_column_text" "is_column_text" (defArgs s_is_column_text) (defBody s_is_column_text) (defScope s_is_column_text) .none kV_is_column_text dc_is_column_text pm_is_column_text an_is_column_text cd_is_column_text ct_is_column_text), sl_is_column_text⟩)
    (c_is_column_text : PySem.W.codeIn K cd_is_column_text "is_column_text" = true)
    (k_is_column_text : PySem.W.keepIn K (.ref g_is_column_text) = true)
    (a_is_row_text : PySem.W.nsIn K mainGlobals "is_row_text" = some (some (.ref g_is_row_text)))
    {oc_is_row_text kV_is_row_text dc_is_row_text pm_is_row_text ct_is_row_text cd_is_row_text : Value} {od_is_row_text an_is_row_text : Option Addr} {sl_is_row_text : Array (Option Value)}
    (l_is_row_text : K.lookup g_is_row_text = some ⟨oc_is_row_text, od_is_row_text, .func (PySem.W.fnOf "is_row_text" "is_row_text" (defArgs s_is_row_text) (defBody s_is_row_text) (defScope s_is_row_text) .none kV_is_row_text dc_is_row_text pm_is_row_text an_is_row_text cd_is_row_text ct_is_row_text), sl_is_row_text⟩)
    (c_is_row_text : PySem.W.codeIn K cd_is_row_text "is_row_text" = true)
    (k_is_row_text : PySem.W.keepIn K (.ref g_is_row_text) = true)
    (a_split_cell : PySem.W.nsIn K mainGlobals "split_cell" = some (some (.ref g_split_cell)))
    {oc_split_cell kV_split_cell dc_split_cell pm_split_cell ct_split_cell cd_split_cell : Value} {od_split_cell an_split_cell : Option Addr} {sl_split_cell : Array (Option Value)}
    (l_split_cell : K.lookup g_split_cell = some ⟨oc_split_cell, od_split_cell, .func (PySem.W.fnOf "split_cell" "split_cell" (defArgs s_split_cell) (defBody s_split_cell) (defScope s_split_cell) .none kV_split_cell dc_split_cell pm_split_cell an_split_cell cd_split_cell ct_split_cell), sl_split_cell⟩)
    (c_split_cell : PySem.W.codeIn K cd_split_cell "split_cell" = true)
    (k_split_cell : PySem.W.keepIn K (.ref g_split_cell) = true)
    (a_check_address : PySem.W.nsIn K mainGlobals "check_address" = some (some (.ref g_check_address)))
    {oc_check_address kV_check_address dc_check_address pm_check_address ct_check_address cd_check_address : Value} {od_check_address an_check_address : Option Addr} {sl_check_address : Array (Option Value)}
    (l_check_address : K.lookup g_check_address = some ⟨oc_check_address, od_check_address, .func (PySem.W.fnOf "check_address" "check_address" (defArgs s_check_address) (defBody s_check_address) (defScope s_check_address) .none kV_check_address dc_check_address pm_check_address an_check_address cd_check_address ct_check_address), sl_check_address⟩)
    (c_check_address : PySem.W.codeIn K cd_check_address "check_address" = true)
    (k_check_address : PySem.W.keepIn K (.ref g_check_address) = true)
    (a_check_area : PySem.W.nsIn K mainGlobals "check_area" = some (some (.ref g_check_area)))
    {oc_check_area kV_check_area dc_check_area pm_check_area ct_check_area cd_check_area : Value} {od_check_area an_check_area : Option Addr} {sl_check_area : Array (Option Value)}
    (l_check_area : K.lookup g_check_area = some ⟨oc_check_area, od_check_area, .func (PySem.W.fnOf "check_area" "check_area" (defArgs s_check_area) (defBody s_check_area) (defScope s_check_area) .none kV_check_area dc_check_area pm_check_area an_check_area cd_check_area ct_check_area), sl_check_area⟩)
    (c_check_area : PySem.W.codeIn K cd_check_area "check_area" = true)
    (k_check_area : PySem.W.keepIn K (.ref g_check_area) = true)
    (a_may_meet : PySem.W.nsIn K mainGlobals "may_meet" = some (some (.ref g_may_meet)))
    {oc_may_meet kV_may_meet dc_may_meet pm_may_meet ct_may_meet cd_may_meet : Value} {od_may_meet an_may_meet : Option Addr} {sl_may_meet : Array (Option Value)}
    (l_may_meet : K.lookup g_may_meet = some ⟨oc_may_meet, od_may_meet, .func (PySem.W.fnOf "may_meet" "may_meet" (defArgs s_may_meet) (defBody s_may_meet) (defScope s_may_meet) .none kV_may_meet dc_may_meet pm_may_meet an_may_meet cd_may_meet ct_may_meet), sl_may_meet⟩)
    (c_may_meet : PySem.W.codeIn K cd_may_meet "may_meet" = true)
    (k_may_meet : PySem.W.keepIn K (.ref g_may_meet) = true)
    (a__ordered : PySem.W.nsIn K mainGlobals "_ordered" = some (some (.ref g__ordered)))
    {oc__ordered kV__ordered dc__ordered pm__ordered ct__ordered cd__ordered : Value} {od__ordered an__ordered : Option Addr} {sl__ordered : Array (Option Value)}
    (l__ordered : K.lookup g__ordered = some ⟨oc__ordered, od__ordered, .func (PySem.W.fnOf "_ordered" "_ordered" (defArgs s__ordered) (defBody s__ordered) (defScope s__ordered) .none kV__ordered dc__ordered pm__ordered an__ordered cd__ordered ct__ordered), sl__ordered⟩)
    (c__ordered : PySem.W.codeIn K cd__ordered "_ordered" = true)
    (k__ordered : PySem.W.keepIn K (.ref g__ordered) = true)
    (a_marked_address : PySem.W.nsIn K mainGlobals "marked_address" = some (some (.ref g_marked_address)))
    {oc_marked_address kV_marked_address dc_marked_address pm_marked_address ct_marked_address cd_marked_address : Value} {od_marked_address an_marked_address : Option Addr} {sl_marked_address : Array (Option Value)}
    (l_marked_address : K.lookup g_marked_address = some ⟨oc_marked_address, od_marked_address, .func (PySem.W.fnOf "marked_address" "marked_address" (defArgs s_marked_address) (defBody s_marked_address) (defScope s_marked_address) .none kV_marked_address dc_marked_address pm_marked_address an_marked_address cd_marked_address ct_marked_address), sl_marked_address⟩)
    (c_marked_address : PySem.W.codeIn K cd_marked_address "marked_address" = true)
    (k_marked_address : PySem.W.keepIn K (.ref g_marked_address) = true)
    (a_area_between : PySem.W.nsIn K mainGlobals "area_between" = some (some (.ref g_area_between)))
    {oc_area_between kV_area_between dc_area_between pm_area_between ct_area_between cd_area_between : Value} {od_area_between an_area_between : Option Addr} {sl_area_between : Array (Option Value)}
    (l_area_between : K.lookup g_area_between = some ⟨oc_area_between, od_area_between, .func (PySem.W.fnOf "area_between" "area_between" (defArgs s_area_between) (defBody s_area_between) (defScope s_area_between) .none kV_area_between dc_area_between pm_area_between an_area_between cd_area_between ct_area_between), sl_area_between⟩)
    (c_area_between : PySem.W.codeIn K cd_area_between "area_between" = true)
    (k_area_between : PySem.W.keepIn K (.ref g_area_between) = true)
    (a_address_text : PySem.W.nsIn K mainGlobals "address_text" = some (some (.ref g_address_text)))
    {oc_address_text kV_address_text dc_address_text pm_address_text ct_address_text cd_address_text : Value} {od_address_text an_address_text : Option Addr} {sl_address_text : Array (Option Value)}
    (l_address_text : K.lookup g_address_text = some ⟨oc_address_text, od_address_text, .func (PySem.W.fnOf "address_text" "address_text" (defArgs s_address_text) (defBody s_address_text) (defScope s_address_text) .none kV_address_text dc_address_text pm_address_text an_address_text cd_address_text ct_address_text), sl_address_text⟩)
    (c_address_text : PySem.W.codeIn K cd_address_text "address_text" = true)
    (k_address_text : PySem.W.keepIn K (.ref g_address_text) = true)
    (a_read_address : PySem.W.nsIn K mainGlobals "read_address" = some (some (.ref g_read_address)))
    {oc_read_address kV_read_address dc_read_address pm_read_address ct_read_address cd_read_address : Value} {od_read_address an_read_address : Option Addr} {sl_read_address : Array (Option Value)}
    (l_read_address : K.lookup g_read_address = some ⟨oc_read_address, od_read_address, .func (PySem.W.fnOf "read_address" "read_address" (defArgs s_read_address) (defBody s_read_address) (defScope s_read_address) .none kV_read_address dc_read_address pm_read_address an_read_address cd_read_address ct_read_address), sl_read_address⟩)
    (c_read_address : PySem.W.codeIn K cd_read_address "read_address" = true)
    (k_read_address : PySem.W.keepIn K (.ref g_read_address) = true)
    (a_corner_text : PySem.W.nsIn K mainGlobals "corner_text" = some (some (.ref g_corner_text)))
    {oc_corner_text kV_corner_text dc_corner_text pm_corner_text ct_corner_text cd_corner_text : Value} {od_corner_text an_corner_text : Option Addr} {sl_corner_text : Array (Option Value)}
    (l_corner_text : K.lookup g_corner_text = some ⟨oc_corner_text, od_corner_text, .func (PySem.W.fnOf "corner_text" "corner_text" (defArgs s_corner_text) (defBody s_corner_text) (defScope s_corner_text) .none kV_corner_text dc_corner_text pm_corner_text an_corner_text cd_corner_text ct_corner_text), sl_corner_text⟩)
    (c_corner_text : PySem.W.codeIn K cd_corner_text "corner_text" = true)
    (k_corner_text : PySem.W.keepIn K (.ref g_corner_text) = true)
    (a_corners_text : PySem.W.nsIn K mainGlobals "corners_text" = some (some (.ref g_corners_text)))
    {oc_corners_text kV_corners_text dc_corners_text pm_corners_text ct_corners_text cd_corners_text : Value} {od_corners_text an_corners_text : Option Addr} {sl_corners_text : Array (Option Value)}
    (l_corners_text : K.lookup g_corners_text = some ⟨oc_corners_text, od_corners_text, .func (PySem.W.fnOf "corners_text" "corners_text" (defArgs s_corners_text) (defBody s_corners_text) (defScope s_corners_text) .none kV_corners_text dc_corners_text pm_corners_text an_corners_text cd_corners_text ct_corners_text), sl_corners_text⟩)
    (c_corners_text : PySem.W.codeIn K cd_corners_text "corners_text" = true)
    (k_corners_text : PySem.W.keepIn K (.ref g_corners_text) = true)
    (a_area_text : PySem.W.nsIn K mainGlobals "area_text" = some (some (.ref g_area_text)))
    {oc_area_text kV_area_text dc_area_text pm_area_text ct_area_text cd_area_text : Value} {od_area_text an_area_text : Option Addr} {sl_area_text : Array (Option Value)}
    (l_area_text : K.lookup g_area_text = some ⟨oc_area_text, od_area_text, .func (PySem.W.fnOf "area_text" "area_text" (defArgs s_area_text) (defBody s_area_text) (defScope s_area_text) .none kV_area_text dc_area_text pm_area_text an_area_text cd_area_text ct_area_text), sl_area_text⟩)
    (c_area_text : PySem.W.codeIn K cd_area_text "area_text" = true)
    (k_area_text : PySem.W.keepIn K (.ref g_area_text) = true)
    (a_read_area : PySem.W.nsIn K mainGlobals "read_area" = some (some (.ref g_read_area)))
    {oc_read_area kV_read_area dc_read_area pm_read_area ct_read_area cd_read_area : Value} {od_read_area an_read_area : Option Addr} {sl_read_area : Array (Option Value)}
    (l_read_area : K.lookup g_read_area = some ⟨oc_read_area, od_read_area, .func (PySem.W.fnOf "read_area" "read_area" (defArgs s_read_area) (defBody s_read_area) (defScope s_read_area) .none kV_read_area dc_read_area pm_read_area an_read_area cd_read_area ct_read_area), sl_read_area⟩)
    (c_read_area : PySem.W.codeIn K cd_read_area "read_area" = true)
    (k_read_area : PySem.W.keepIn K (.ref g_read_area) = true)
    (a__read_corner : PySem.W.nsIn K mainGlobals "_read_corner" = some (some (.ref g__read_corner)))
    {oc__read_corner kV__read_corner dc__read_corner pm__read_corner ct__read_corner cd__read_corner : Value} {od__read_corner an__read_corner : Option Addr} {sl__read_corner : Array (Option Value)}
    (l__read_corner : K.lookup g__read_corner = some ⟨oc__read_corner, od__read_corner, .func (PySem.W.fnOf "_read_corner" "_read_corner" (defArgs s__read_corner) (defBody s__read_corner) (defScope s__read_corner) .none kV__read_corner dc__read_corner pm__read_corner an__read_corner cd__read_corner ct__read_corner), sl__read_corner⟩)
    (c__read_corner : PySem.W.codeIn K cd__read_corner "_read_corner" = true)
    (k__read_corner : PySem.W.keepIn K (.ref g__read_corner) = true)
    (a_l_pen : PySem.W.nsIn K mainGlobals "_law_pen" = some (some (.ref g_l_pen)))
    {oc_l_pen kV_l_pen dc_l_pen pm_l_pen ct_l_pen cd_l_pen : Value} {od_l_pen an_l_pen : Option Addr} {sl_l_pen : Array (Option Value)}
    (l_l_pen : K.lookup g_l_pen = some ⟨oc_l_pen, od_l_pen, .func (PySem.W.fnOf "_law_pen" "_law_pen" (defArgs s_l_pen) (defBody s_l_pen) (defScope s_l_pen) .none kV_l_pen dc_l_pen pm_l_pen an_l_pen cd_l_pen ct_l_pen), sl_l_pen⟩)
    (c_l_pen : PySem.W.codeIn K cd_l_pen "_law_pen" = true)
    (k_l_pen : PySem.W.keepIn K (.ref g_l_pen) = true)
    (a_l_draw : PySem.W.nsIn K mainGlobals "_law_draw" = some (some (.ref g_l_draw)))
    {oc_l_draw kV_l_draw dc_l_draw pm_l_draw ct_l_draw cd_l_draw : Value} {od_l_draw an_l_draw : Option Addr} {sl_l_draw : Array (Option Value)}
    (l_l_draw : K.lookup g_l_draw = some ⟨oc_l_draw, od_l_draw, .func (PySem.W.fnOf "_law_draw" "_law_draw" (defArgs s_l_draw) (defBody s_l_draw) (defScope s_l_draw) .none kV_l_draw dc_l_draw pm_l_draw an_l_draw cd_l_draw ct_l_draw), sl_l_draw⟩)
    (c_l_draw : PySem.W.codeIn K cd_l_draw "_law_draw" = true)
    (k_l_draw : PySem.W.keepIn K (.ref g_l_draw) = true)
    (a_l_pick : PySem.W.nsIn K mainGlobals "_law_pick" = some (some (.ref g_l_pick)))
    {oc_l_pick kV_l_pick dc_l_pick pm_l_pick ct_l_pick cd_l_pick : Value} {od_l_pick an_l_pick : Option Addr} {sl_l_pick : Array (Option Value)}
    (l_l_pick : K.lookup g_l_pick = some ⟨oc_l_pick, od_l_pick, .func (PySem.W.fnOf "_law_pick" "_law_pick" (defArgs s_l_pick) (defBody s_l_pick) (defScope s_l_pick) .none kV_l_pick dc_l_pick pm_l_pick an_l_pick cd_l_pick ct_l_pick), sl_l_pick⟩)
    (c_l_pick : PySem.W.codeIn K cd_l_pick "_law_pick" = true)
    (k_l_pick : PySem.W.keepIn K (.ref g_l_pick) = true)
    (a_l_signs : PySem.W.nsIn K mainGlobals "_law_signs" = some (some (.ref g_l_signs)))
    {oc_l_signs kV_l_signs dc_l_signs pm_l_signs ct_l_signs cd_l_signs : Value} {od_l_signs an_l_signs : Option Addr} {sl_l_signs : Array (Option Value)}
    (l_l_signs : K.lookup g_l_signs = some ⟨oc_l_signs, od_l_signs, .func (PySem.W.fnOf "_law_signs" "_law_signs" (defArgs s_l_signs) (defBody s_l_signs) (defScope s_l_signs) .none kV_l_signs dc_l_signs pm_l_signs an_l_signs cd_l_signs ct_l_signs), sl_l_signs⟩)
    (c_l_signs : PySem.W.codeIn K cd_l_signs "_law_signs" = true)
    (k_l_signs : PySem.W.keepIn K (.ref g_l_signs) = true)
    (a_l_letters : PySem.W.nsIn K mainGlobals "_law_letters" = some (some (.ref g_l_letters)))
    {oc_l_letters kV_l_letters dc_l_letters pm_l_letters ct_l_letters cd_l_letters : Value} {od_l_letters an_l_letters : Option Addr} {sl_l_letters : Array (Option Value)}
    (l_l_letters : K.lookup g_l_letters = some ⟨oc_l_letters, od_l_letters, .func (PySem.W.fnOf "_law_letters" "_law_letters" (defArgs s_l_letters) (defBody s_l_letters) (defScope s_l_letters) .none kV_l_letters dc_l_letters pm_l_letters an_l_letters cd_l_letters ct_l_letters), sl_l_letters⟩)
    (c_l_letters : PySem.W.codeIn K cd_l_letters "_law_letters" = true)
    (k_l_letters : PySem.W.keepIn K (.ref g_l_letters) = true)
    (a_l_column : PySem.W.nsIn K mainGlobals "_law_column" = some (some (.ref g_l_column)))
    {oc_l_column kV_l_column dc_l_column pm_l_column ct_l_column cd_l_column : Value} {od_l_column an_l_column : Option Addr} {sl_l_column : Array (Option Value)}
    (l_l_column : K.lookup g_l_column = some ⟨oc_l_column, od_l_column, .func (PySem.W.fnOf "_law_column" "_law_column" (defArgs s_l_column) (defBody s_l_column) (defScope s_l_column) .none kV_l_column dc_l_column pm_l_column an_l_column cd_l_column ct_l_column), sl_l_column⟩)
    (c_l_column : PySem.W.codeIn K cd_l_column "_law_column" = true)
    (k_l_column : PySem.W.keepIn K (.ref g_l_column) = true)
    (a_l_is_letters : PySem.W.nsIn K mainGlobals "_law_is_letters" = some (some (.ref g_l_is_letters)))
    {oc_l_is_letters kV_l_is_letters dc_l_is_letters pm_l_is_letters ct_l_is_letters cd_l_is_letters : Value} {od_l_is_letters an_l_is_letters : Option Addr} {sl_l_is_letters : Array (Option Value)}
    (l_l_is_letters : K.lookup g_l_is_letters = some ⟨oc_l_is_letters, od_l_is_letters, .func (PySem.W.fnOf "_law_is_letters" "_law_is_letters" (defArgs s_l_is_letters) (defBody s_l_is_letters) (defScope s_l_is_letters) .none kV_l_is_letters dc_l_is_letters pm_l_is_letters an_l_is_letters cd_l_is_letters ct_l_is_letters), sl_l_is_letters⟩)
    (c_l_is_letters : PySem.W.codeIn K cd_l_is_letters "_law_is_letters" = true)
    (k_l_is_letters : PySem.W.keepIn K (.ref g_l_is_letters) = true)
    (a_l_is_digits : PySem.W.nsIn K mainGlobals "_law_is_digits" = some (some (.ref g_l_is_digits)))
    {oc_l_is_digits kV_l_is_digits dc_l_is_digits pm_l_is_digits ct_l_is_digits cd_l_is_digits : Value} {od_l_is_digits an_l_is_digits : Option Addr} {sl_l_is_digits : Array (Option Value)}
    (l_l_is_digits : K.lookup g_l_is_digits = some ⟨oc_l_is_digits, od_l_is_digits, .func (PySem.W.fnOf "_law_is_digits" "_law_is_digits" (defArgs s_l_is_digits) (defBody s_l_is_digits) (defScope s_l_is_digits) .none kV_l_is_digits dc_l_is_digits pm_l_is_digits an_l_is_digits cd_l_is_digits ct_l_is_digits), sl_l_is_digits⟩)
    (c_l_is_digits : PySem.W.codeIn K cd_l_is_digits "_law_is_digits" = true)
    (k_l_is_digits : PySem.W.keepIn K (.ref g_l_is_digits) = true)
    (a_l_mixed_case : PySem.W.nsIn K mainGlobals "_law_mixed_case" = some (some (.ref g_l_mixed_case)))
    {oc_l_mixed_case kV_l_mixed_case dc_l_mixed_case pm_l_mixed_case ct_l_mixed_case cd_l_mixed_case : Value} {od_l_mixed_case an_l_mixed_case : Option Addr} {sl_l_mixed_case : Array (Option Value)}
    (l_l_mixed_case : K.lookup g_l_mixed_case = some ⟨oc_l_mixed_case, od_l_mixed_case, .func (PySem.W.fnOf "_law_mixed_case" "_law_mixed_case" (defArgs s_l_mixed_case) (defBody s_l_mixed_case) (defScope s_l_mixed_case) .none kV_l_mixed_case dc_l_mixed_case pm_l_mixed_case an_l_mixed_case cd_l_mixed_case ct_l_mixed_case), sl_l_mixed_case⟩)
    (c_l_mixed_case : PySem.W.codeIn K cd_l_mixed_case "_law_mixed_case" = true)
    (k_l_mixed_case : PySem.W.keepIn K (.ref g_l_mixed_case) = true)
    (a_l_is_sheet : PySem.W.nsIn K mainGlobals "_law_is_sheet" = some (some (.ref g_l_is_sheet)))
    {oc_l_is_sheet kV_l_is_sheet dc_l_is_sheet pm_l_is_sheet ct_l_is_sheet cd_l_is_sheet : Value} {od_l_is_sheet an_l_is_sheet : Option Addr} {sl_l_is_sheet : Array (Option Value)}
    (l_l_is_sheet : K.lookup g_l_is_sheet = some ⟨oc_l_is_sheet, od_l_is_sheet, .func (PySem.W.fnOf "_law_is_sheet" "_law_is_sheet" (defArgs s_l_is_sheet) (defBody s_l_is_sheet) (defScope s_l_is_sheet) .none kV_l_is_sheet dc_l_is_sheet pm_l_is_sheet an_l_is_sheet cd_l_is_sheet ct_l_is_sheet), sl_l_is_sheet⟩)
    (c_l_is_sheet : PySem.W.codeIn K cd_l_is_sheet "_law_is_sheet" = true)
    (k_l_is_sheet : PySem.W.keepIn K (.ref g_l_is_sheet) = true)
    (a_l_sheet_name : PySem.W.nsIn K mainGlobals "_law_sheet_name" = some (some (.ref g_l_sheet_name)))
    {oc_l_sheet_name kV_l_sheet_name dc_l_sheet_name pm_l_sheet_name ct_l_sheet_name cd_l_sheet_name : Value} {od_l_sheet_name an_l_sheet_name : Option Addr} {sl_l_sheet_name : Array (Option Value)}
    (l_l_sheet_name : K.lookup g_l_sheet_name = some ⟨oc_l_sheet_name, od_l_sheet_name, .func (PySem.W.fnOf "_law_sheet_name" "_law_sheet_name" (defArgs s_l_sheet_name) (defBody s_l_sheet_name) (defScope s_l_sheet_name) .none kV_l_sheet_name dc_l_sheet_name pm_l_sheet_name an_l_sheet_name cd_l_sheet_name ct_l_sheet_name), sl_l_sheet_name⟩)
    (c_l_sheet_name : PySem.W.codeIn K cd_l_sheet_name "_law_sheet_name" = true)
    (k_l_sheet_name : PySem.W.keepIn K (.ref g_l_sheet_name) = true)
    (a_l_told : PySem.W.nsIn K mainGlobals "_law_told" = some (some (.ref g_l_told)))
    {oc_l_told kV_l_told dc_l_told pm_l_told ct_l_told cd_l_told : Value} {od_l_told an_l_told : Option Addr} {sl_l_told : Array (Option Value)}
    (l_l_told : K.lookup g_l_told = some ⟨oc_l_told, od_l_told, .func (PySem.W.fnOf "_law_told" "_law_told" (defArgs s_l_told) (defBody s_l_told) (defScope s_l_told) .none kV_l_told dc_l_told pm_l_told an_l_told cd_l_told ct_l_told), sl_l_told⟩)
    (c_l_told : PySem.W.codeIn K cd_l_told "_law_told" = true)
    (k_l_told : PySem.W.keepIn K (.ref g_l_told) = true)
    (a_l_spoilt : PySem.W.nsIn K mainGlobals "_law_spoilt" = some (some (.ref g_l_spoilt)))
    {oc_l_spoilt kV_l_spoilt dc_l_spoilt pm_l_spoilt ct_l_spoilt cd_l_spoilt : Value} {od_l_spoilt an_l_spoilt : Option Addr} {sl_l_spoilt : Array (Option Value)}
    (l_l_spoilt : K.lookup g_l_spoilt = some ⟨oc_l_spoilt, od_l_spoilt, .func (PySem.W.fnOf "_law_spoilt" "_law_spoilt" (defArgs s_l_spoilt) (defBody s_l_spoilt) (defScope s_l_spoilt) .none kV_l_spoilt dc_l_spoilt pm_l_spoilt an_l_spoilt cd_l_spoilt ct_l_spoilt), sl_l_spoilt⟩)
    (c_l_spoilt : PySem.W.codeIn K cd_l_spoilt "_law_spoilt" = true)
    (k_l_spoilt : PySem.W.keepIn K (.ref g_l_spoilt) = true)
    (a_l_made : PySem.W.nsIn K mainGlobals "_law_made" = some (some (.ref g_l_made)))
    {oc_l_made kV_l_made dc_l_made pm_l_made ct_l_made cd_l_made : Value} {od_l_made an_l_made : Option Addr} {sl_l_made : Array (Option Value)}
    (l_l_made : K.lookup g_l_made = some ⟨oc_l_made, od_l_made, .func (PySem.W.fnOf "_law_made" "_law_made" (defArgs s_l_made) (defBody s_l_made) (defScope s_l_made) .none kV_l_made dc_l_made pm_l_made an_l_made cd_l_made ct_l_made), sl_l_made⟩)
    (c_l_made : PySem.W.codeIn K cd_l_made "_law_made" = true)
    (k_l_made : PySem.W.keepIn K (.ref g_l_made) = true)
    (a_l_row_text : PySem.W.nsIn K mainGlobals "_law_row_text" = some (some (.ref g_l_row_text)))
    {oc_l_row_text kV_l_row_text dc_l_row_text pm_l_row_text ct_l_row_text cd_l_row_text : Value} {od_l_row_text an_l_row_text : Option Addr} {sl_l_row_text : Array (Option Value)}
    (l_l_row_text : K.lookup g_l_row_text = some ⟨oc_l_row_text, od_l_row_text, .func (PySem.W.fnOf "_law_row_text" "_law_row_text" (defArgs s_l_row_text) (defBody s_l_row_text) (defScope s_l_row_text) .none kV_l_row_text dc_l_row_text pm_l_row_text an_l_row_text cd_l_row_text ct_l_row_text), sl_l_row_text⟩)
    (c_l_row_text : PySem.W.codeIn K cd_l_row_text "_law_row_text" = true)
    (k_l_row_text : PySem.W.keepIn K (.ref g_l_row_text) = true)
    (a_l_column_text : PySem.W.nsIn K mainGlobals "_law_column_text" = some (some (.ref g_l_column_text)))
    {oc_l_column_text kV_l_column_text dc_l_column_text pm_l_column_text ct_l_column_text cd_l_column_text : Value} {od_l_column_text an_l_column_text : Option Addr} {sl_l_column_text : Array (Option Value)}
    (l_l_column_text : K.lookup g_l_column_text = some ⟨oc_l_column_text, od_l_column_text, .func (PySem.W.fnOf "_law_column_text" "_law_column_text" (defArgs s_l_column_text) (defBody s_l_column_text) (defScope s_l_column_text) .none kV_l_column_text dc_l_column_text pm_l_column_text an_l_column_text cd_l_column_text ct_l_column_text), sl_l_column_text⟩)
    (c_l_column_text : PySem.W.codeIn K cd_l_column_text "_law_column_text" = true)
    (k_l_column_text : PySem.W.keepIn K (.ref g_l_column_text) = true)
    (a_l_sheet_text : PySem.W.nsIn K mainGlobals "_law_sheet_text" = some (some (.ref g_l_sheet_text)))
    {oc_l_sheet_text kV_l_sheet_text dc_l_sheet_text pm_l_sheet_text ct_l_sheet_text cd_l_sheet_text : Value} {od_l_sheet_text an_l_sheet_text : Option Addr} {sl_l_sheet_text : Array (Option Value)}
    (l_l_sheet_text : K.lookup g_l_sheet_text = some ⟨oc_l_sheet_text, od_l_sheet_text, .func (PySem.W.fnOf "_law_sheet_text" "_law_sheet_text" (defArgs s_l_sheet_text) (defBody s_l_sheet_text) (defScope s_l_sheet_text) .none kV_l_sheet_text dc_l_sheet_text pm_l_sheet_text an_l_sheet_text cd_l_sheet_text ct_l_sheet_text), sl_l_sheet_text⟩)
    (c_l_sheet_text : PySem.W.codeIn K cd_l_sheet_text "_law_sheet_text" = true)
    (k_l_sheet_text : PySem.W.keepIn K (.ref g_l_sheet_text) = true)
    (a_l_is : PySem.W.nsIn K mainGlobals "_law_is" = some (some (.ref g_l_is)))
    {oc_l_is kV_l_is dc_l_is pm_l_is ct_l_is cd_l_is : Value} {od_l_is an_l_is : Option Addr} {sl_l_is : Array (Option Value)}
    (l_l_is : K.lookup g_l_is = some ⟨oc_l_is, od_l_is, .func (PySem.W.fnOf "_law_is" "_law_is" (defArgs s_l_is) (defBody s_l_is) (defScope s_l_is) .none kV_l_is dc_l_is pm_l_is an_l_is cd_l_is ct_l_is), sl_l_is⟩)
    (c_l_is : PySem.W.codeIn K cd_l_is "_law_is" = true)
    (k_l_is : PySem.W.keepIn K (.ref g_l_is) = true)
    (a_l_read_row : PySem.W.nsIn K mainGlobals "_law_read_row" = some (some (.ref g_l_read_row)))
    {oc_l_read_row kV_l_read_row dc_l_read_row pm_l_read_row ct_l_read_row cd_l_read_row : Value} {od_l_read_row an_l_read_row : Option Addr} {sl_l_read_row : Array (Option Value)}
    (l_l_read_row : K.lookup g_l_read_row = some ⟨oc_l_read_row, od_l_read_row, .func (PySem.W.fnOf "_law_read_row" "_law_read_row" (defArgs s_l_read_row) (defBody s_l_read_row) (defScope s_l_read_row) .none kV_l_read_row dc_l_read_row pm_l_read_row an_l_read_row cd_l_read_row ct_l_read_row), sl_l_read_row⟩)
    (c_l_read_row : PySem.W.codeIn K cd_l_read_row "_law_read_row" = true)
    (k_l_read_row : PySem.W.keepIn K (.ref g_l_read_row) = true)
    (a_l_read_column : PySem.W.nsIn K mainGlobals "_law_read_column" = some (some (.ref g_l_read_column)))
    {oc_l_read_column kV_l_read_column dc_l_read_column pm_l_read_column ct_l_read_column cd_l_read_column : Value} {od_l_read_column an_l_read_column : Option Addr} {sl_l_read_column : Array (Option Value)}
    (l_l_read_column : K.lookup g_l_read_column = some ⟨oc_l_read_column, od_l_read_column, .func (PySem.W.fnOf "_law_read_column" "_law_read_column" (defArgs s_l_read_column) (defBody s_l_read_column) (defScope s_l_read_column) .none kV_l_read_column dc_l_read_column pm_l_read_column an_l_read_column cd_l_read_column ct_l_read_column), sl_l_read_column⟩)
    (c_l_read_column : PySem.W.codeIn K cd_l_read_column "_law_read_column" = true)
    (k_l_read_column : PySem.W.keepIn K (.ref g_l_read_column) = true)
    (a_l_read_cell : PySem.W.nsIn K mainGlobals "_law_read_cell" = some (some (.ref g_l_read_cell)))
    {oc_l_read_cell kV_l_read_cell dc_l_read_cell pm_l_read_cell ct_l_read_cell cd_l_read_cell : Value} {od_l_read_cell an_l_read_cell : Option Addr} {sl_l_read_cell : Array (Option Value)}
    (l_l_read_cell : K.lookup g_l_read_cell = some ⟨oc_l_read_cell, od_l_read_cell, .func (PySem.W.fnOf "_law_read_cell" "_law_read_cell" (defArgs s_l_read_cell) (defBody s_l_read_cell) (defScope s_l_read_cell) .none kV_l_read_cell dc_l_read_cell pm_l_read_cell an_l_read_cell cd_l_read_cell ct_l_read_cell), sl_l_read_cell⟩)
    (c_l_read_cell : PySem.W.codeIn K cd_l_read_cell "_law_read_cell" = true)
    (k_l_read_cell : PySem.W.keepIn K (.ref g_l_read_cell) = true)
    (a_l_parted : PySem.W.nsIn K mainGlobals "_law_parted" = some (some (.ref g_l_parted)))
    {oc_l_parted kV_l_parted dc_l_parted pm_l_parted ct_l_parted cd_l_parted : Value} {od_l_parted an_l_parted : Option Addr} {sl_l_parted : Array (Option Value)}
    (l_l_parted : K.lookup g_l_parted = some ⟨oc_l_parted, od_l_parted, .func (PySem.W.fnOf "_law_parted" "_law_parted" (defArgs s_l_parted) (defBody s_l_parted) (defScope s_l_parted) .none kV_l_parted dc_l_parted pm_l_parted an_l_parted cd_l_parted ct_l_parted), sl_l_parted⟩)
    (c_l_parted : PySem.W.codeIn K cd_l_parted "_law_parted" = true)
    (k_l_parted : PySem.W.keepIn K (.ref g_l_parted) = true)
    (a_l_corners : PySem.W.nsIn K mainGlobals "_law_corners" = some (some (.ref g_l_corners)))
    {oc_l_corners kV_l_corners dc_l_corners pm_l_corners ct_l_corners cd_l_corners : Value} {od_l_corners an_l_corners : Option Addr} {sl_l_corners : Array (Option Value)}
    (l_l_corners : K.lookup g_l_corners = some ⟨oc_l_corners, od_l_corners, .func (PySem.W.fnOf "_law_corners" "_law_corners" (defArgs s_l_corners) (defBody s_l_corners) (defScope s_l_corners) .none kV_l_corners dc_l_corners pm_l_corners an_l_corners cd_l_corners ct_l_corners), sl_l_corners⟩)
    (c_l_corners : PySem.W.codeIn K cd_l_corners "_law_corners" = true)
    (k_l_corners : PySem.W.keepIn K (.ref g_l_corners) = true)
    (a_l_in_order : PySem.W.nsIn K mainGlobals "_law_in_order" = some (some (.ref g_l_in_order)))
    {oc_l_in_order kV_l_in_order dc_l_in_order pm_l_in_order ct_l_in_order : Value} {od_l_in_order an_l_in_order : Option Addr} {sl_l_in_order : Array (Option Value)}
    (l_l_in_order : K.lookup g_l_in_order = some ⟨oc_l_in_order, od_l_in_order, .func (PySem.W.fnOf "_law_in_order" "_law_in_order" (defArgs s_l_in_order) (defBody s_l_in_order) (defScope s_l_in_order) .none kV_l_in_order dc_l_in_order pm_l_in_order an_l_in_order (.ref c_I) ct_l_in_order), sl_l_in_order⟩)
    (c_l_in_order : PySem.W.codeIn K (.ref c_I) "_law_in_order" = true)
    (k_l_in_order : PySem.W.keepIn K (.ref g_l_in_order) = true)
    (a_l_area : PySem.W.nsIn K mainGlobals "_law_area" = some (some (.ref g_l_area)))
    {oc_l_area kV_l_area dc_l_area pm_l_area ct_l_area cd_l_area : Value} {od_l_area an_l_area : Option Addr} {sl_l_area : Array (Option Value)}
    (l_l_area : K.lookup g_l_area = some ⟨oc_l_area, od_l_area, .func (PySem.W.fnOf "_law_area" "_law_area" (defArgs s_l_area) (defBody s_l_area) (defScope s_l_area) .none kV_l_area dc_l_area pm_l_area an_l_area cd_l_area ct_l_area), sl_l_area⟩)
    (c_l_area : PySem.W.codeIn K cd_l_area "_law_area" = true)
    (k_l_area : PySem.W.keepIn K (.ref g_l_area) = true)
    (a_l_normal : PySem.W.nsIn K mainGlobals "_law_normal" = some (some (.ref g_l_normal)))
    {oc_l_normal kV_l_normal dc_l_normal pm_l_normal ct_l_normal cd_l_normal : Value} {od_l_normal an_l_normal : Option Addr} {sl_l_normal : Array (Option Value)}
    (l_l_normal : K.lookup g_l_normal = some ⟨oc_l_normal, od_l_normal, .func (PySem.W.fnOf "_law_normal" "_law_normal" (defArgs s_l_normal) (defBody s_l_normal) (defScope s_l_normal) .none kV_l_normal dc_l_normal pm_l_normal an_l_normal cd_l_normal ct_l_normal), sl_l_normal⟩)
    (c_l_normal : PySem.W.codeIn K cd_l_normal "_law_normal" = true)
    (k_l_normal : PySem.W.keepIn K (.ref g_l_normal) = true)
    (a_l_corner : PySem.W.nsIn K mainGlobals "_law_corner" = some (some (.ref g_l_corner)))
    {oc_l_corner kV_l_corner dc_l_corner pm_l_corner ct_l_corner cd_l_corner : Value} {od_l_corner an_l_corner : Option Addr} {sl_l_corner : Array (Option Value)}
    (l_l_corner : K.lookup g_l_corner = some ⟨oc_l_corner, od_l_corner, .func (PySem.W.fnOf "_law_corner" "_law_corner" (defArgs s_l_corner) (defBody s_l_corner) (defScope s_l_corner) .none kV_l_corner dc_l_corner pm_l_corner an_l_corner cd_l_corner ct_l_corner), sl_l_corner⟩)
    (c_l_corner : PySem.W.codeIn K cd_l_corner "_law_corner" = true)
    (k_l_corner : PySem.W.keepIn K (.ref g_l_corner) = true)
    (a_l_area_made : PySem.W.nsIn K mainGlobals "_law_area_made" = some (some (.ref g_l_area_made)))
    {oc_l_area_made kV_l_area_made dc_l_area_made pm_l_area_made ct_l_area_made cd_l_area_made : Value} {od_l_area_made an_l_area_made : Option Addr} {sl_l_area_made : Array (Option Value)}
    (l_l_area_made : K.lookup g_l_area_made = some ⟨oc_l_area_made, od_l_area_made, .func (PySem.W.fnOf "_law_area_made" "_law_area_made" (defArgs s_l_area_made) (defBody s_l_area_made) (defScope s_l_area_made) .none kV_l_area_made dc_l_area_made pm_l_area_made an_l_area_made cd_l_area_made ct_l_area_made), sl_l_area_made⟩)
    (c_l_area_made : PySem.W.codeIn K cd_l_area_made "_law_area_made" = true)
    (k_l_area_made : PySem.W.keepIn K (.ref g_l_area_made) = true)
    (a_l_is_area : PySem.W.nsIn K mainGlobals "_law_is_area" = some (some (.ref g_l_is_area)))
    {oc_l_is_area kV_l_is_area dc_l_is_area pm_l_is_area ct_l_is_area cd_l_is_area : Value} {od_l_is_area an_l_is_area : Option Addr} {sl_l_is_area : Array (Option Value)}
    (l_l_is_area : K.lookup g_l_is_area = some ⟨oc_l_is_area, od_l_is_area, .func (PySem.W.fnOf "_law_is_area" "_law_is_area" (defArgs s_l_is_area) (defBody s_l_is_area) (defScope s_l_is_area) .none kV_l_is_area dc_l_is_area pm_l_is_area an_l_is_area cd_l_is_area ct_l_is_area), sl_l_is_area⟩)
    (c_l_is_area : PySem.W.codeIn K cd_l_is_area "_law_is_area" = true)
    (k_l_is_area : PySem.W.keepIn K (.ref g_l_is_area) = true)
    (a_l_corner_text : PySem.W.nsIn K mainGlobals "_law_corner_text" = some (some (.ref g_l_corner_text)))
    {oc_l_corner_text kV_l_corner_text dc_l_corner_text pm_l_corner_text ct_l_corner_text cd_l_corner_text : Value} {od_l_corner_text an_l_corner_text : Option Addr} {sl_l_corner_text : Array (Option Value)}
    (l_l_corner_text : K.lookup g_l_corner_text = some ⟨oc_l_corner_text, od_l_corner_text, .func (PySem.W.fnOf "_law_corner_text" "_law_corner_text" (defArgs s_l_corner_text) (defBody s_l_corner_text) (defScope s_l_corner_text) .none kV_l_corner_text dc_l_corner_text pm_l_corner_text an_l_corner_text cd_l_corner_text ct_l_corner_text), sl_l_corner_text⟩)
    (c_l_corner_text : PySem.W.codeIn K cd_l_corner_text "_law_corner_text" = true)
    (k_l_corner_text : PySem.W.keepIn K (.ref g_l_corner_text) = true)
    (a_l_area_text : PySem.W.nsIn K mainGlobals "_law_area_text" = some (some (.ref g_l_area_text)))
    {oc_l_area_text kV_l_area_text dc_l_area_text pm_l_area_text ct_l_area_text cd_l_area_text : Value} {od_l_area_text an_l_area_text : Option Addr} {sl_l_area_text : Array (Option Value)}
    (l_l_area_text : K.lookup g_l_area_text = some ⟨oc_l_area_text, od_l_area_text, .func (PySem.W.fnOf "_law_area_text" "_law_area_text" (defArgs s_l_area_text) (defBody s_l_area_text) (defScope s_l_area_text) .none kV_l_area_text dc_l_area_text pm_l_area_text an_l_area_text cd_l_area_text ct_l_area_text), sl_l_area_text⟩)
    (c_l_area_text : PySem.W.codeIn K cd_l_area_text "_law_area_text" = true)
    (k_l_area_text : PySem.W.keepIn K (.ref g_l_area_text) = true)
    (a_l_area_read : PySem.W.nsIn K mainGlobals "_law_area_read" = some (some (.ref g_l_area_read)))
    {oc_l_area_read kV_l_area_read dc_l_area_read pm_l_area_read ct_l_area_read cd_l_area_read : Value} {od_l_area_read an_l_area_read : Option Addr} {sl_l_area_read : Array (Option Value)}
    (l_l_area_read : K.lookup g_l_area_read = some ⟨oc_l_area_read, od_l_area_read, .func (PySem.W.fnOf "_law_area_read" "_law_area_read" (defArgs s_l_area_read) (defBody s_l_area_read) (defScope s_l_area_read) .none kV_l_area_read dc_l_area_read pm_l_area_read an_l_area_read cd_l_area_read ct_l_area_read), sl_l_area_read⟩)
    (c_l_area_read : PySem.W.codeIn K cd_l_area_read "_law_area_read" = true)
    (k_l_area_read : PySem.W.keepIn K (.ref g_l_area_read) = true)
    (a_l_text_right : PySem.W.nsIn K mainGlobals "_law_text_right" = some (some (.ref g_l_text_right)))
    {oc_l_text_right kV_l_text_right dc_l_text_right pm_l_text_right ct_l_text_right cd_l_text_right : Value} {od_l_text_right an_l_text_right : Option Addr} {sl_l_text_right : Array (Option Value)}
    (l_l_text_right : K.lookup g_l_text_right = some ⟨oc_l_text_right, od_l_text_right, .func (PySem.W.fnOf "_law_text_right" "_law_text_right" (defArgs s_l_text_right) (defBody s_l_text_right) (defScope s_l_text_right) .none kV_l_text_right dc_l_text_right pm_l_text_right an_l_text_right cd_l_text_right ct_l_text_right), sl_l_text_right⟩)
    (c_l_text_right : PySem.W.codeIn K cd_l_text_right "_law_text_right" = true)
    (k_l_text_right : PySem.W.keepIn K (.ref g_l_text_right) = true)
    (a_l_spoilt_right : PySem.W.nsIn K mainGlobals "_law_spoilt_right" = some (some (.ref g_l_spoilt_right)))
    {oc_l_spoilt_right kV_l_spoilt_right dc_l_spoilt_right pm_l_spoilt_right ct_l_spoilt_right : Value} {od_l_spoilt_right an_l_spoilt_right : Option Addr} {sl_l_spoilt_right : Array (Option Value)}
    (l_l_spoilt_right : K.lookup g_l_spoilt_right = some ⟨oc_l_spoilt_right, od_l_spoilt_right, .func (PySem.W.fnOf "_law_spoilt_right" "_law_spoilt_right" (defArgs s_l_spoilt_right) (defBody s_l_spoilt_right) (defScope s_l_spoilt_right) .none kV_l_spoilt_right dc_l_spoilt_right pm_l_spoilt_right an_l_spoilt_right (.ref c_P) ct_l_spoilt_right), sl_l_spoilt_right⟩)
    (c_l_spoilt_right : PySem.W.codeIn K (.ref c_P) "_law_spoilt_right" = true)
    (k_l_spoilt_right : PySem.W.keepIn K (.ref g_l_spoilt_right) = true)
    (a_law : PySem.W.nsIn K mainGlobals "law" = some (some (.ref g_law)))
    {oc_law kV_law dc_law pm_law ct_law : Value} {od_law an_law : Option Addr} {sl_law : Array (Option Value)}
    (l_law : K.lookup g_law = some ⟨oc_law, od_law, .func (PySem.W.fnOf "law" "law" (defArgs s_law) (defBody s_law) (defScope s_law) .none kV_law dc_law pm_law an_law (.ref c_L) ct_law), sl_law⟩)
    (c_law : PySem.W.codeIn K (.ref c_L) "law" = true)
    (k_law : PySem.W.keepIn K (.ref g_law) = true)
    (tIP : tI ≠ tP)
    (tIL : tI ≠ tL)
    (tPL : tP ≠ tL)
    (hdI : PySem.W.codeHdIn K c_I tI = true)
    (hdP : PySem.W.codeHdIn K c_P tP = true)
    (hdL : PySem.W.codeHdIn K c_L tL = true)
    (ntI : K.lookup tI = none)
    (ntP : K.lookup tP = none)
    (ntL : K.lookup tL = none)
    (tbI : h.get? tI = some (PySem.W.tabObj #[]))
    (tbP : h.get? tP = some (PySem.W.tabObj #[]))
    (tbL : h.get? tL = some (PySem.W.tabObj #[]))
    (nRA : C_R ≠ C_A)
    : LawAtS l w K CX0 18 63 "_law_script" mg fa h := by
  have e := hfa.symm.trans (PySem.W.mg_of X G a_law)
  cases e
  have ln_B : LineOf K S C_B := ⟨_, _, _, _, _, _, _, _, _, _, _, _, _, _, L_B⟩
  have ln_N : LineOf K S C_N := ⟨_, _, _, _, _, _, _, _, _, _, _, _, _, _, L_N⟩
  have ln_M : LineOf K S C_M := ⟨_, _, _, _, _, _, _, _, _, _, _, _, _, _, L_M⟩
  have ln_O : LineOf K S C_O := ⟨_, _, _, _, _, _, _, _, _, _, _, _, _, _, L_O⟩
  have e_B : Er K mg "BadValue" "BadValue.__init__" s_BadValue_init "value" S C_B f_B (PySem.W.fnOf "__init__" "BadValue.__init__" (defArgs s_BadValue_init) (defBody s_BadValue_init) (defScope s_BadValue_init) .none kV_iB dc_iB pm_iB an_iB cd_iB ct_iB) := ⟨PySem.W.mg_of X G a_B, ⟨ln_B.ox sa_B kC_B, i_B, ty_B⟩, ln_B.xf hg_B hk_B, no0_B, fun_mk (st := s_BadValue_init) l_iB c_iB k_iB, ln_B, nBS⟩
  have e_N : Er K mg "NotAName" "NotAName.__init__" s_NotAName_init "name" S C_N f_N (PySem.W.fnOf "__init__" "NotAName.__init__" (defArgs s_NotAName_init) (defBody s_NotAName_init) (defScope s_NotAName_init) .none kV_iN dc_iN pm_iN an_iN cd_iN ct_iN) := ⟨PySem.W.mg_of X G a_N, ⟨ln_N.ox sa_N kC_N, i_N, ty_N⟩, ln_N.xf hg_N hk_N, no0_N, fun_mk (st := s_NotAName_init) l_iN c_iN k_iN, ln_N, nNS⟩
  have e_M : Er K mg "TooMany" "TooMany.__init__" s_TooMany_init "most" S C_M f_M (PySem.W.fnOf "__init__" "TooMany.__init__" (defArgs s_TooMany_init) (defBody s_TooMany_init) (defScope s_TooMany_init) .none kV_iM dc_iM pm_iM an_iM cd_iM ct_iM) := ⟨PySem.W.mg_of X G a_M, ⟨ln_M.ox sa_M kC_M, i_M, ty_M⟩, ln_M.xf hg_M hk_M, no0_M, fun_mk (st := s_TooMany_init) l_iM c_iM k_iM, ln_M, nMS⟩
  have e_O : ErO K mg S C_O f_O (PySem.W.fnOf "__init__" "OffGrid.__init__" (defArgs s_OffGrid_init) (defBody s_OffGrid_init) (defScope s_OffGrid_init) .none kV_iO dc_iO pm_iO an_iO cd_iO ct_iO) := ⟨PySem.W.mg_of X G a_O, ⟨ln_O.ox sa_O kC_O, i_O, ty_O⟩, ln_O.xf hg_O hk_O, no0_O, no1_O, fun_mk (st := s_OffGrid_init) l_iO c_iO k_iO, ln_O, nOS⟩
  have cl_A : Cls K C_A := ⟨pg_A, hd2_A, po_A, sa_A⟩
  have mk2_A : Mk K C_A i_at_A := ⟨mk_A, i_A, if_A, kC_A⟩
  have F_A___eq__ := fun_mk (st := s_Address___eq__) l_A___eq__ c_A___eq__ k_A___eq__
  have b_A___eq__ := F_A___eq__.binds (ps := P_Address___eq__) fun _ _ _ _ _ _ us hl => match us, hl with | [_, _], _ => rfl
  have h_A___eq__ : Meth K C_A "__eq__" m_A___eq__ := ⟨f_A___eq__, if_A___eq__, k_A___eq__⟩
  have eqc_A : EqC K C_A N_A m_A___eq__ := ⟨⟨_, _, _, _, _, _, _, _, _, _, _, _, _, _, _, L_A⟩, ok_A, eq_A, ne_A, ⟨_, l_A___eq__, rfl⟩⟩
  have z1_A_str := kitA L_A tyT_A y1_A_str
  have cl_R : Cls K C_R := ⟨pg_R, hd2_R, po_R, sa_R⟩
  have mk2_R : Mk K C_R i_at_R := ⟨mk_R, i_R, if_R, kC_R⟩
  have F_R___eq__ := fun_mk (st := s_Area___eq__) l_R___eq__ c_R___eq__ k_R___eq__
  have b_R___eq__ := F_R___eq__.binds (ps := P_Area___eq__) fun _ _ _ _ _ _ us hl => match us, hl with | [_, _], _ => rfl
  have h_R___eq__ : Meth K C_R "__eq__" m_R___eq__ := ⟨f_R___eq__, if_R___eq__, k_R___eq__⟩
  have F_R_has := fun_mk (st := s_Area_has) l_R_has c_R_has k_R_has
  have b_R_has := F_R_has.binds (ps := P_Area_has) fun _ _ _ _ _ _ us hl => match us, hl with | [_, _], _ => rfl
  have h_R_has : Meth K C_R "has" m_R_has := ⟨f_R_has, if_R_has, k_R_has⟩
  have F_R_common := fun_mk (st := s_Area_common) l_R_common c_R_common k_R_common
  have b_R_common := F_R_common.binds (ps := P_Area_common) fun _ _ _ _ _ _ us hl => match us, hl with | [_, _], _ => rfl
  have h_R_common : Meth K C_R "common" m_R_common := ⟨f_R_common, if_R_common, k_R_common⟩
  have F_R_without := fun_mk (st := s_Area_without) l_R_without c_R_without k_R_without
  have b_R_without := F_R_without.binds (ps := P_Area_without) fun _ _ _ _ _ _ us hl => match us, hl with | [_, _], _ => rfl
  have h_R_without : Meth K C_R "without" m_R_without := ⟨f_R_without, if_R_without, k_R_without⟩
  have F_R_cells := fun_mk (st := s_Area_cells) l_R_cells c_R_cells k_R_cells
  have b_R_cells := F_R_cells.binds (ps := P_Area_cells) fun _ _ _ _ _ _ us hl => match us, hl with | [_], _ => rfl
  have h_R_cells : Meth K C_R "cells" m_R_cells := ⟨f_R_cells, if_R_cells, k_R_cells⟩
  have F_R__part := fun_mk (st := s_Area__part) l_R__part c_R__part k_R__part
  have b_R__part := F_R__part.binds (ps := P_Area__part) fun _ _ _ _ _ _ us hl => match us, hl with | [_, _, _, _, _], _ => rfl
  have h_R__part : Meth K C_R "_part" m_R__part := ⟨f_R__part, if_R__part, k_R__part⟩
  have eqc_R : EqC K C_R N_R m_R___eq__ := ⟨⟨_, _, _, _, _, _, _, _, _, _, _, _, _, _, _, L_R⟩, ok_R, eq_R, ne_R, ⟨_, l_R___eq__, rfl⟩⟩
  have z1_R_NoneType := kitA L_R tyT_R y1_R_NoneType
  have z1_R_int := kitA L_R tyT_R y1_R_int
  have z1_R_bool := kitA L_R tyT_R y1_R_bool
  have z1_R_list := kitA L_R tyT_R y1_R_list
  have z1_R_tuple := kitA L_R tyT_R y1_R_tuple
  have F_is_integer := fun_mk (st := s_is_integer) l_is_integer c_is_integer k_is_integer
  have b_is_integer := F_is_integer.binds (ps := P_is_integer) fun _ _ _ _ _ _ us hl => match us, hl with | [_], _ => rfl
  have F_check_range := fun_mk (st := s_check_range) l_check_range c_check_range k_check_range
  have b_check_range := F_check_range.binds (ps := P_check_range) fun _ _ _ _ _ _ us hl => match us, hl with | [_, _, _], _ => rfl
  have F_check_string := fun_mk (st := s_check_string) l_check_string c_check_string k_check_string
  have b_check_string := F_check_string.binds (ps := P_check_string) fun _ _ _ _ _ _ us hl => match us, hl with | [_], _ => rfl
  have F_check_integer := fun_mk (st := s_check_integer) l_check_integer c_check_integer k_check_integer
  have b_check_integer := F_check_integer.binds (ps := P_check_integer) fun _ _ _ _ _ _ us hl => match us, hl with | [_], _ => rfl
  have F_check_truth := fun_mk (st := s_check_truth) l_check_truth c_check_truth k_check_truth
  have b_check_truth := F_check_truth.binds (ps := P_check_truth) fun _ _ _ _ _ _ us hl => match us, hl with | [_], _ => rfl
  have F_is_on_grid := fun_mk (st := s_is_on_grid) l_is_on_grid c_is_on_grid k_is_on_grid
  have b_is_on_grid := F_is_on_grid.binds (ps := P_is_on_grid) fun _ _ _ _ _ _ us hl => match us, hl with | [_, _], _ => rfl
  have F_is_sheet_name := fun_mk (st := s_is_sheet_name) l_is_sheet_name c_is_sheet_name k_is_sheet_name
  have b_is_sheet_name := F_is_sheet_name.binds (ps := P_is_sheet_name) fun _ _ _ _ _ _ us hl => match us, hl with | [_], _ => rfl
  have F_small_letters := fun_mk (st := s_small_letters) l_small_letters c_small_letters k_small_letters
  have b_small_letters := F_small_letters.binds (ps := P_small_letters) fun _ _ _ _ _ _ us hl => match us, hl with | [_], _ => rfl
  have F_alike_sheets := fun_mk (st := s_alike_sheets) l_alike_sheets c_alike_sheets k_alike_sheets
  have b_alike_sheets := F_alike_sheets.binds (ps := P_alike_sheets) fun _ _ _ _ _ _ us hl => match us, hl with | [_, _], _ => rfl
  have F_letters_of := fun_mk (st := s_letters_of) l_letters_of c_letters_of k_letters_of
  have b_letters_of := F_letters_of.binds (ps := P_letters_of) fun _ _ _ _ _ _ us hl => match us, hl with | [_], _ => rfl
  have F_column_of := fun_mk (st := s_column_of) l_column_of c_column_of k_column_of
  have b_column_of := F_column_of.binds (ps := P_column_of) fun _ _ _ _ _ _ us hl => match us, hl with | [_], _ => rfl
  have F_is_letters := fun_mk (st := s_is_letters) l_is_letters c_is_letters k_is_letters
  have b_is_letters := F_is_letters.binds (ps := P_is_letters) fun _ _ _ _ _ _ us hl => match us, hl with | [_], _ => rfl
  have F_is_column_text := fun_mk (st := s_is_column_text) l_is_column_text c_is_column_text k_is_column_text
  have b_is_column_text := F_is_column_text.binds (ps := P_is_column_text) fun _ _ _ _ _ _ us hl => match us, hl with | [_], _ => rfl
  have F_is_row_text := fun_mk (st := s_is_row_text) l_is_row_text c_is_row_text k_is_row_text
  have b_is_row_text := F_is_row_text.binds (ps := P_is_row_text) fun _ _ _ _ _ _ us hl => match us, hl with | [_], _ => rfl
  have F_split_cell := fun_mk (st := s_split_cell) l_split_cell c_split_cell k_split_cell
  have b_split_cell := F_split_cell.binds (ps := P_split_cell) fun _ _ _ _ _ _ us hl => match us, hl with | [_], _ => rfl
  have F_check_address := fun_mk (st := s_check_address) l_check_address c_check_address k_check_address
  have b_check_address := F_check_address.binds (ps := P_check_address) fun _ _ _ _ _ _ us hl => match us, hl with | [_], _ => rfl
  have F_check_area := fun_mk (st := s_check_area) l_check_area c_check_area k_check_area
  have b_check_area := F_check_area.binds (ps := P_check_area) fun _ _ _ _ _ _ us hl => match us, hl with | [_], _ => rfl
  have F_may_meet := fun_mk (st := s_may_meet) l_may_meet c_may_meet k_may_meet
  have b_may_meet := F_may_meet.binds (ps := P_may_meet) fun _ _ _ _ _ _ us hl => match us, hl with | [_, _], _ => rfl
  have F__ordered := fun_mk (st := s__ordered) l__ordered c__ordered k__ordered
  have b__ordered := F__ordered.binds (ps := P__ordered) fun _ _ _ _ _ _ us hl => match us, hl with | [_, _], _ => rfl
  have F_marked_address := fun_mk (st := s_marked_address) l_marked_address c_marked_address k_marked_address
  have b_marked_address := F_marked_address.binds (ps := P_marked_address) fun _ _ _ _ _ _ us hl => match us, hl with | [_, _, _], _ => rfl
  have F_area_between := fun_mk (st := s_area_between) l_area_between c_area_between k_area_between
  have b_area_between := F_area_between.binds (ps := P_area_between) fun _ _ _ _ _ _ us hl => match us, hl with | [_, _, _, _, _, _], _ => rfl
  have F_address_text := fun_mk (st := s_address_text) l_address_text c_address_text k_address_text
  have b_address_text := F_address_text.binds (ps := P_address_text) fun _ _ _ _ _ _ us hl => match us, hl with | [_], _ => rfl
  have F_read_address := fun_mk (st := s_read_address) l_read_address c_read_address k_read_address
  have b_read_address := F_read_address.binds (ps := P_read_address) fun _ _ _ _ _ _ us hl => match us, hl with | [_], _ => rfl
  have F_corner_text := fun_mk (st := s_corner_text) l_corner_text c_corner_text k_corner_text
  have b_corner_text := F_corner_text.binds (ps := P_corner_text) fun _ _ _ _ _ _ us hl => match us, hl with | [_, _], _ => rfl
  have F_corners_text := fun_mk (st := s_corners_text) l_corners_text c_corners_text k_corners_text
  have b_corners_text := F_corners_text.binds (ps := P_corners_text) fun _ _ _ _ _ _ us hl => match us, hl with | [_], _ => rfl
  have F_area_text := fun_mk (st := s_area_text) l_area_text c_area_text k_area_text
  have b_area_text := F_area_text.binds (ps := P_area_text) fun _ _ _ _ _ _ us hl => match us, hl with | [_], _ => rfl
  have F_read_area := fun_mk (st := s_read_area) l_read_area c_read_area k_read_area
  have b_read_area := F_read_area.binds (ps := P_read_area) fun _ _ _ _ _ _ us hl => match us, hl with | [_], _ => rfl
  have F__read_corner := fun_mk (st := s__read_corner) l__read_corner c__read_corner k__read_corner
  have b__read_corner := F__read_corner.binds (ps := P__read_corner) fun _ _ _ _ _ _ us hl => match us, hl with | [_, _, _], _ => rfl
  have F_l_pen := fun_mk (st := s_l_pen) l_l_pen c_l_pen k_l_pen
  have b_l_pen := F_l_pen.binds (ps := P_l_pen) fun _ _ _ _ _ _ us hl => match us, hl with | [_], _ => rfl
  have F_l_draw := fun_mk (st := s_l_draw) l_l_draw c_l_draw k_l_draw
  have b_l_draw := F_l_draw.binds (ps := P_l_draw) fun _ _ _ _ _ _ us hl => match us, hl with | [_, _], _ => rfl
  have F_l_pick := fun_mk (st := s_l_pick) l_l_pick c_l_pick k_l_pick
  have b_l_pick := F_l_pick.binds (ps := P_l_pick) fun _ _ _ _ _ _ us hl => match us, hl with | [_, _], _ => rfl
  have F_l_signs := fun_mk (st := s_l_signs) l_l_signs c_l_signs k_l_signs
  have b_l_signs := F_l_signs.binds (ps := P_l_signs) fun _ _ _ _ _ _ us hl => match us, hl with | [], _ => rfl
  have F_l_letters := fun_mk (st := s_l_letters) l_l_letters c_l_letters k_l_letters
  have b_l_letters := F_l_letters.binds (ps := P_l_letters) fun _ _ _ _ _ _ us hl => match us, hl with | [_], _ => rfl
  have F_l_column := fun_mk (st := s_l_column) l_l_column c_l_column k_l_column
  have b_l_column := F_l_column.binds (ps := P_l_column) fun _ _ _ _ _ _ us hl => match us, hl with | [_], _ => rfl
  have F_l_is_letters := fun_mk (st := s_l_is_letters) l_l_is_letters c_l_is_letters k_l_is_letters
  have b_l_is_letters := F_l_is_letters.binds (ps := P_l_is_letters) fun _ _ _ _ _ _ us hl => match us, hl with | [_], _ => rfl
  have F_l_is_digits := fun_mk (st := s_l_is_digits) l_l_is_digits c_l_is_digits k_l_is_digits
  have b_l_is_digits := F_l_is_digits.binds (ps := P_l_is_digits) fun _ _ _ _ _ _ us hl => match us, hl with | [_], _ => rfl
  have F_l_mixed_case := fun_mk (st := s_l_mixed_case) l_l_mixed_case c_l_mixed_case k_l_mixed_case
  have b_l_mixed_case := F_l_mixed_case.binds (ps := P_l_mixed_case) fun _ _ _ _ _ _ us hl => match us, hl with | [_, _], _ => rfl
  have F_l_is_sheet := fun_mk (st := s_l_is_sheet) l_l_is_sheet c_l_is_sheet k_l_is_sheet
  have b_l_is_sheet := F_l_is_sheet.binds (ps := P_l_is_sheet) fun _ _ _ _ _ _ us hl => match us, hl with | [_], _ => rfl
  have F_l_sheet_name := fun_mk (st := s_l_sheet_name) l_l_sheet_name c_l_sheet_name k_l_sheet_name
  have b_l_sheet_name := F_l_sheet_name.binds (ps := P_l_sheet_name) fun _ _ _ _ _ _ us hl => match us, hl with | [_], _ => rfl
  have F_l_told := fun_mk (st := s_l_told) l_l_told c_l_told k_l_told
  have b_l_told := F_l_told.binds (ps := P_l_told) fun _ _ _ _ _ _ us hl => match us, hl with | [_], _ => rfl
  have F_l_spoilt := fun_mk (st := s_l_spoilt) l_l_spoilt c_l_spoilt k_l_spoilt
  have b_l_spoilt := F_l_spoilt.binds (ps := P_l_spoilt) fun _ _ _ _ _ _ us hl => match us, hl with | [_, _, _], _ => rfl
  have F_l_made := fun_mk (st := s_l_made) l_l_made c_l_made k_l_made
  have b_l_made := F_l_made.binds (ps := P_l_made) fun _ _ _ _ _ _ us hl => match us, hl with | [_], _ => rfl
  have F_l_row_text := fun_mk (st := s_l_row_text) l_l_row_text c_l_row_text k_l_row_text
  have b_l_row_text := F_l_row_text.binds (ps := P_l_row_text) fun _ _ _ _ _ _ us hl => match us, hl with | [_, _], _ => rfl
  have F_l_column_text := fun_mk (st := s_l_column_text) l_l_column_text c_l_column_text k_l_column_text
  have b_l_column_text := F_l_column_text.binds (ps := P_l_column_text) fun _ _ _ _ _ _ us hl => match us, hl with | [_, _], _ => rfl
  have F_l_sheet_text := fun_mk (st := s_l_sheet_text) l_l_sheet_text c_l_sheet_text k_l_sheet_text
  have b_l_sheet_text := F_l_sheet_text.binds (ps := P_l_sheet_text) fun _ _ _ _ _ _ us hl => match us, hl with | [_], _ => rfl
  have F_l_is := fun_mk (st := s_l_is) l_l_is c_l_is k_l_is
  have b_l_is := F_l_is.binds (ps := P_l_is) fun _ _ _ _ _ _ us hl => match us, hl with | [_, _], _ => rfl
  have F_l_read_row := fun_mk (st := s_l_read_row) l_l_read_row c_l_read_row k_l_read_row
  have b_l_read_row := F_l_read_row.binds (ps := P_l_read_row) fun _ _ _ _ _ _ us hl => match us, hl with | [_], _ => rfl
  have F_l_read_column := fun_mk (st := s_l_read_column) l_l_read_column c_l_read_column k_l_read_column
  have b_l_read_column := F_l_read_column.binds (ps := P_l_read_column) fun _ _ _ _ _ _ us hl => match us, hl with | [_], _ => rfl
  have F_l_read_cell := fun_mk (st := s_l_read_cell) l_l_read_cell c_l_read_cell k_l_read_cell
  have b_l_read_cell := F_l_read_cell.binds (ps := P_l_read_cell) fun _ _ _ _ _ _ us hl => match us, hl with | [_, _], _ => rfl
  have F_l_parted := fun_mk (st := s_l_parted) l_l_parted c_l_parted k_l_parted
  have b_l_parted := F_l_parted.binds (ps := P_l_parted) fun _ _ _ _ _ _ us hl => match us, hl with | [_], _ => rfl
  have F_l_corners := fun_mk (st := s_l_corners) l_l_corners c_l_corners k_l_corners
  have b_l_corners := F_l_corners.binds (ps := P_l_corners) fun _ _ _ _ _ _ us hl => match us, hl with | [_, _], _ => rfl
  have FC_l_in_order : FunC K "_law_in_order" "_law_in_order" s_l_in_order g_l_in_order c_I (PySem.W.fnOf "_law_in_order" "_law_in_order" (defArgs s_l_in_order) (defBody s_l_in_order) (defScope s_l_in_order) .none kV_l_in_order dc_l_in_order pm_l_in_order an_l_in_order (.ref c_I) ct_l_in_order) := ⟨⟨_, _, _, _, _, _, _, _, rfl, l_l_in_order, c_l_in_order⟩, k_l_in_order⟩
  have F_l_in_order := FC_l_in_order.toFun
  have b_l_in_order := F_l_in_order.binds (ps := P_l_in_order) fun _ _ _ _ _ _ us hl => match us, hl with | [_], _ => rfl
  have F_l_area := fun_mk (st := s_l_area) l_l_area c_l_area k_l_area
  have b_l_area := F_l_area.binds (ps := P_l_area) fun _ _ _ _ _ _ us hl => match us, hl with | [_, _, _], _ => rfl
  have F_l_normal := fun_mk (st := s_l_normal) l_l_normal c_l_normal k_l_normal
  have b_l_normal := F_l_normal.binds (ps := P_l_normal) fun _ _ _ _ _ _ us hl => match us, hl with | [_], _ => rfl
  have F_l_corner := fun_mk (st := s_l_corner) l_l_corner c_l_corner k_l_corner
  have b_l_corner := F_l_corner.binds (ps := P_l_corner) fun _ _ _ _ _ _ us hl => match us, hl with | [_, _], _ => rfl
  have F_l_area_made := fun_mk (st := s_l_area_made) l_l_area_made c_l_area_made k_l_area_made
  have b_l_area_made := F_l_area_made.binds (ps := P_l_area_made) fun _ _ _ _ _ _ us hl => match us, hl with | [_], _ => rfl
  have F_l_is_area := fun_mk (st := s_l_is_area) l_l_is_area c_l_is_area k_l_is_area
  have b_l_is_area := F_l_is_area.binds (ps := P_l_is_area) fun _ _ _ _ _ _ us hl => match us, hl with | [_, _], _ => rfl
  have F_l_corner_text := fun_mk (st := s_l_corner_text) l_l_corner_text c_l_corner_text k_l_corner_text
  have b_l_corner_text := F_l_corner_text.binds (ps := P_l_corner_text) fun _ _ _ _ _ _ us hl => match us, hl with | [_, _], _ => rfl
  have F_l_area_text := fun_mk (st := s_l_area_text) l_l_area_text c_l_area_text k_l_area_text
  have b_l_area_text := F_l_area_text.binds (ps := P_l_area_text) fun _ _ _ _ _ _ us hl => match us, hl with | [_], _ => rfl
  have F_l_area_read := fun_mk (st := s_l_area_read) l_l_area_read c_l_area_read k_l_area_read
  have b_l_area_read := F_l_area_read.binds (ps := P_l_area_read) fun _ _ _ _ _ _ us hl => match us, hl with | [_], _ => rfl
  have F_l_text_right := fun_mk (st := s_l_text_right) l_l_text_right c_l_text_right k_l_text_right
  have b_l_text_right := F_l_text_right.binds (ps := P_l_text_right) fun _ _ _ _ _ _ us hl => match us, hl with | [_, _], _ => rfl
  have FC_l_spoilt_right : FunC K "_law_spoilt_right" "_law_spoilt_right" s_l_spoilt_right g_l_spoilt_right c_P (PySem.W.fnOf "_law_spoilt_right" "_law_spoilt_right" (defArgs s_l_spoilt_right) (defBody s_l_spoilt_right) (defScope s_l_spoilt_right) .none kV_l_spoilt_right dc_l_spoilt_right pm_l_spoilt_right an_l_spoilt_right (.ref c_P) ct_l_spoilt_right) := ⟨⟨_, _, _, _, _, _, _, _, rfl, l_l_spoilt_right, c_l_spoilt_right⟩, k_l_spoilt_right⟩
  have F_l_spoilt_right := FC_l_spoilt_right.toFun
  have b_l_spoilt_right := F_l_spoilt_right.binds (ps := P_l_spoilt_right) fun _ _ _ _ _ _ us hl => match us, hl with | [_, _], _ => rfl
  have FC_law : FunC K "law" "law" s_law fa c_L (PySem.W.fnOf "law" "law" (defArgs s_law) (defBody s_law) (defScope s_law) .none kV_law dc_law pm_law an_law (.ref c_L) ct_law) := ⟨⟨_, _, _, _, _, _, _, _, rfl, l_law, c_law⟩, k_law⟩
  have F_law := FC_law.toFun
  have b_law := F_law.binds (ps := P_law) fun _ _ _ _ _ _ us hl => match us, hl with | [_], _ => rfl
  have FD : FunD K "__init__" "Address.__init__" (defArgs s_Address_init) (defBody s_Address_init) (defScope s_Address_init) [] kwA i_at_A (PySem.W.fnOf "__init__" "Address.__init__" (defArgs s_Address_init) (defBody s_Address_init) (defScope s_Address_init) .none (.ref D_A) dc_iA pm_iA an_iA cd_iA ct_iA) := ⟨⟨_, _, _, _, _, _, _, _, _, _, rfl, l_iA, c_iA, .inl ⟨rfl, rfl⟩, .inr ⟨D_A, rfl, fun q hq => by
    rcases List.mem_cons.mp hq with h | h
    · rw [h]; exact ⟨_, d_A_fixed_row, rfl⟩
    · rcases List.mem_cons.mp h with h | h
      · rw [h]; exact ⟨_, d_A_fixed_column, rfl⟩
      · rw [List.mem_singleton.mp h]; exact ⟨_, d_A_sheet, rfl⟩⟩⟩, k_iA⟩
  have FR : FunD K "__init__" "Area.__init__" (defArgs s_Area_init) (defBody s_Area_init) (defScope s_Area_init) [] kwR i_at_R (PySem.W.fnOf "__init__" "Area.__init__" (defArgs s_Area_init) (defBody s_Area_init) (defScope s_Area_init) .none (.ref D_R) dc_iR pm_iR an_iR cd_iR ct_iR) := ⟨⟨_, _, _, _, _, _, _, _, _, _, rfl, l_iR, c_iR, .inl ⟨rfl, rfl⟩, .inr ⟨D_R, rfl, fun q hq => by
    rw [List.mem_singleton.mp hq]; exact ⟨_, d_R_whole, rfl⟩⟩⟩, k_iR⟩
  obtain ⟨mv, kb1⟩ := kb1_of FD
  obtain ⟨mc, kbc⟩ := kbC_of FD
  obtain ⟨mr, kbr⟩ := kbR_of FD
  obtain ⟨ma, kba⟩ := kbA0_of FR
  have TC : TxtC K mg ({ S := S, CB := C_B, CN := C_N, iB := f_B, iN := f_N, dB := (PySem.W.fnOf "__init__" "BadValue.__init__" (defArgs s_BadValue_init) (defBody s_BadValue_init) (defScope s_BadValue_init) .none kV_iB dc_iB pm_iB an_iB cd_iB ct_iB), dN := (PySem.W.fnOf "__init__" "NotAName.__init__" (defArgs s_NotAName_init) (defBody s_NotAName_init) (defScope s_NotAName_init) .none kV_iN dc_iN pm_iN an_iN cd_iN ct_iN), f_is_integer := g_is_integer, f_check_range := g_check_range, f_check_string := g_check_string, f_letters_of := g_letters_of, f_is_letters := g_is_letters, f_is_column_text := g_is_column_text, f_column_of := g_column_of, d_is_integer := (PySem.W.fnOf "is_integer" "is_integer" (defArgs s_is_integer) (defBody s_is_integer) (defScope s_is_integer) .none kV_is_integer dc_is_integer pm_is_integer an_is_integer cd_is_integer ct_is_integer), d_check_range := (PySem.W.fnOf "check_range" "check_range" (defArgs s_check_range) (defBody s_check_range) (defScope s_check_range) .none kV_check_range dc_check_range pm_check_range an_check_range cd_check_range ct_check_range), d_check_string := (PySem.W.fnOf "check_string" "check_string" (defArgs s_check_string) (defBody s_check_string) (defScope s_check_string) .none kV_check_string dc_check_string pm_check_string an_check_string cd_check_string ct_check_string), d_letters_of := (PySem.W.fnOf "letters_of" "letters_of" (defArgs s_letters_of) (defBody s_letters_of) (defScope s_letters_of) .none kV_letters_of dc_letters_of pm_letters_of an_letters_of cd_letters_of ct_letters_of), d_is_letters := (PySem.W.fnOf "is_letters" "is_letters" (defArgs s_is_letters) (defBody s_is_letters) (defScope s_is_letters) .none kV_is_letters dc_is_letters pm_is_letters an_is_letters cd_is_letters ct_is_letters), d_is_column_text := (PySem.W.fnOf "is_column_text" "is_column_text" (defArgs s_is_column_text) (defBody s_is_column_text) (defScope s_is_column_text) .none kV_is_column_text dc_is_column_text pm_is_column_text an_is_column_text cd_is_column_text ct_is_column_text), d_column_of := (PySem.W.fnOf "column_of" "column_of" (defArgs s_column_of) (defBody s_column_of) (defScope s_column_of) .none kV_column_of dc_column_of pm_column_of an_column_of cd_column_of ct_column_of) } : Ads) := { BadValue := e_B, NotAName := e_N, nBN := nBN, n_isinstance := PySem.W.mg_none_of X G z_isinstance, n_int := PySem.W.mg_none_of X G z_int, n_bool := PySem.W.mg_none_of X G z_bool, n_str := PySem.W.mg_none_of X G z_str, n_len := PySem.W.mg_none_of X G z_len, n_divmod := PySem.W.mg_none_of X G z_divmod, mg_COLUMNS := ⟨_, PySem.W.mg_of X G a_COL⟩, mg__LETTERS := ⟨_, PySem.W.mg_of X G a_LET⟩, mg_is_integer := PySem.W.mg_of X G a_is_integer, F_is_integer := F_is_integer, b_is_integer := b_is_integer, mg_check_range := PySem.W.mg_of X G a_check_range, F_check_range := F_check_range, b_check_range := b_check_range, mg_check_string := PySem.W.mg_of X G a_check_string, F_check_string := F_check_string, b_check_string := b_check_string, mg_letters_of := PySem.W.mg_of X G a_letters_of, F_letters_of := F_letters_of, b_letters_of := b_letters_of, mg_is_letters := PySem.W.mg_of X G a_is_letters, F_is_letters := F_is_letters, b_is_letters := b_is_letters, mg_is_column_text := PySem.W.mg_of X G a_is_column_text, F_is_column_text := F_is_column_text, b_is_column_text := b_is_column_text, mg_column_of := PySem.W.mg_of X G a_column_of, F_column_of := F_column_of, b_column_of := b_column_of }
  have TG : TxtG K mg ({ f_check_integer := g_check_integer, d_check_integer := (PySem.W.fnOf "check_integer" "check_integer" (defArgs s_check_integer) (defBody s_check_integer) (defScope s_check_integer) .none kV_check_integer dc_check_integer pm_check_integer an_check_integer cd_check_integer ct_check_integer), f_check_truth := g_check_truth, d_check_truth := (PySem.W.fnOf "check_truth" "check_truth" (defArgs s_check_truth) (defBody s_check_truth) (defScope s_check_truth) .none kV_check_truth dc_check_truth pm_check_truth an_check_truth cd_check_truth ct_check_truth), f_is_on_grid := g_is_on_grid, d_is_on_grid := (PySem.W.fnOf "is_on_grid" "is_on_grid" (defArgs s_is_on_grid) (defBody s_is_on_grid) (defScope s_is_on_grid) .none kV_is_on_grid dc_is_on_grid pm_is_on_grid an_is_on_grid cd_is_on_grid ct_is_on_grid), f_is_sheet_name := g_is_sheet_name, d_is_sheet_name := (PySem.W.fnOf "is_sheet_name" "is_sheet_name" (defArgs s_is_sheet_name) (defBody s_is_sheet_name) (defScope s_is_sheet_name) .none kV_is_sheet_name dc_is_sheet_name pm_is_sheet_name an_is_sheet_name cd_is_sheet_name ct_is_sheet_name), f_small_letters := g_small_letters, d_small_letters := (PySem.W.fnOf "small_letters" "small_letters" (defArgs s_small_letters) (defBody s_small_letters) (defScope s_small_letters) .none kV_small_letters dc_small_letters pm_small_letters an_small_letters cd_small_letters ct_small_letters), f_alike_sheets := g_alike_sheets, d_alike_sheets := (PySem.W.fnOf "alike_sheets" "alike_sheets" (defArgs s_alike_sheets) (defBody s_alike_sheets) (defScope s_alike_sheets) .none kV_alike_sheets dc_alike_sheets pm_alike_sheets an_alike_sheets cd_alike_sheets ct_alike_sheets), f_is_row_text := g_is_row_text, d_is_row_text := (PySem.W.fnOf "is_row_text" "is_row_text" (defArgs s_is_row_text) (defBody s_is_row_text) (defScope s_is_row_text) .none kV_is_row_text dc_is_row_text pm_is_row_text an_is_row_text cd_is_row_text ct_is_row_text), f_split_cell := g_split_cell, d_split_cell := (PySem.W.fnOf "split_cell" "split_cell" (defArgs s_split_cell) (defBody s_split_cell) (defScope s_split_cell) .none kV_split_cell dc_split_cell pm_split_cell an_split_cell cd_split_cell ct_split_cell) } : AdG) := { mg_ROWS := ⟨_, PySem.W.mg_of X G a_ROWS⟩, mg_check_integer := PySem.W.mg_of X G a_check_integer, F_check_integer := F_check_integer, b_check_integer := b_check_integer, mg_check_truth := PySem.W.mg_of X G a_check_truth, F_check_truth := F_check_truth, b_check_truth := b_check_truth, mg_is_on_grid := PySem.W.mg_of X G a_is_on_grid, F_is_on_grid := F_is_on_grid, b_is_on_grid := b_is_on_grid, mg_is_sheet_name := PySem.W.mg_of X G a_is_sheet_name, F_is_sheet_name := F_is_sheet_name, b_is_sheet_name := b_is_sheet_name, mg_small_letters := PySem.W.mg_of X G a_small_letters, F_small_letters := F_small_letters, b_small_letters := b_small_letters, mg_alike_sheets := PySem.W.mg_of X G a_alike_sheets, F_alike_sheets := F_alike_sheets, b_alike_sheets := b_alike_sheets, mg_is_row_text := PySem.W.mg_of X G a_is_row_text, F_is_row_text := F_is_row_text, b_is_row_text := b_is_row_text, mg_split_cell := PySem.W.mg_of X G a_split_cell, F_split_cell := F_split_cell, b_split_cell := b_split_cell }
  have TA : TxtA6 K mg S ({ C := C_A, CO := C_O, iO := f_O, dO := (PySem.W.fnOf "__init__" "OffGrid.__init__" (defArgs s_OffGrid_init) (defBody s_OffGrid_init) (defScope s_OffGrid_init) .none kV_iO dc_iO pm_iO an_iO cd_iO ct_iO), f_init := i_at_A, f_eq := m_A___eq__, f_pushed := i_at_A, f_bare := i_at_A, d_init := (PySem.W.fnOf "__init__" "Address.__init__" (defArgs s_Address_init) (defBody s_Address_init) (defScope s_Address_init) .none (.ref D_A) dc_iA pm_iA an_iA cd_iA ct_iA), d_eq := (PySem.W.fnOf "__eq__" "Address.__eq__" (defArgs s_Address___eq__) (defBody s_Address___eq__) (defScope s_Address___eq__) .none kV_A___eq__ dc_A___eq__ pm_A___eq__ an_A___eq__ cd_A___eq__ ct_A___eq__), d_pushed := (PySem.W.fnOf "__init__" "Address.__init__" (defArgs s_Address_init) (defBody s_Address_init) (defScope s_Address_init) .none (.ref D_A) dc_iA pm_iA an_iA cd_iA ct_iA), d_bare := (PySem.W.fnOf "__init__" "Address.__init__" (defArgs s_Address_init) (defBody s_Address_init) (defScope s_Address_init) .none (.ref D_A) dc_iA pm_iA an_iA cd_iA ct_iA) } : AdC) := { O := e_O, mg_Address := PySem.W.mg_of X G a_A, cl := cl_A, n_row := nA_A_row, n_column := nA_A_column, n_fixed_row := nA_A_fixed_row, n_fixed_column := nA_A_fixed_column, n_sheet := nA_A_sheet, F_init := fun_mk (st := s_Address_init) l_iA c_iA k_iA }
  have Z : TxtB K mg ({ C := C_A, CO := C_O, iO := f_O, dO := (PySem.W.fnOf "__init__" "OffGrid.__init__" (defArgs s_OffGrid_init) (defBody s_OffGrid_init) (defScope s_OffGrid_init) .none kV_iO dc_iO pm_iO an_iO cd_iO ct_iO), f_init := i_at_A, f_eq := m_A___eq__, f_pushed := i_at_A, f_bare := i_at_A, d_init := (PySem.W.fnOf "__init__" "Address.__init__" (defArgs s_Address_init) (defBody s_Address_init) (defScope s_Address_init) .none (.ref D_A) dc_iA pm_iA an_iA cd_iA ct_iA), d_eq := (PySem.W.fnOf "__eq__" "Address.__eq__" (defArgs s_Address___eq__) (defBody s_Address___eq__) (defScope s_Address___eq__) .none kV_A___eq__ dc_A___eq__ pm_A___eq__ an_A___eq__ cd_A___eq__ ct_A___eq__), d_pushed := (PySem.W.fnOf "__init__" "Address.__init__" (defArgs s_Address_init) (defBody s_Address_init) (defScope s_Address_init) .none (.ref D_A) dc_iA pm_iA an_iA cd_iA ct_iA), d_bare := (PySem.W.fnOf "__init__" "Address.__init__" (defArgs s_Address_init) (defBody s_Address_init) (defScope s_Address_init) .none (.ref D_A) dc_iA pm_iA an_iA cd_iA ct_iA) } : AdC) N_A := { mkA := mk2_A, F_eq := F_A___eq__, ha := ha_A, hn := hn, ht := ht, hm := hm_A }
  have TR : TxtR K mg ({ CA := C_R, f_check_address := g_check_address, d_check_address := (PySem.W.fnOf "check_address" "check_address" (defArgs s_check_address) (defBody s_check_address) (defScope s_check_address) .none kV_check_address dc_check_address pm_check_address an_check_address cd_check_address ct_check_address), f_check_area := g_check_area, d_check_area := (PySem.W.fnOf "check_area" "check_area" (defArgs s_check_area) (defBody s_check_area) (defScope s_check_area) .none kV_check_area dc_check_area pm_check_area an_check_area cd_check_area ct_check_area), f_may_meet := g_may_meet, d_may_meet := (PySem.W.fnOf "may_meet" "may_meet" (defArgs s_may_meet) (defBody s_may_meet) (defScope s_may_meet) .none kV_may_meet dc_may_meet pm_may_meet an_may_meet cd_may_meet ct_may_meet), f__ordered := g__ordered, d__ordered := (PySem.W.fnOf "_ordered" "_ordered" (defArgs s__ordered) (defBody s__ordered) (defScope s__ordered) .none kV__ordered dc__ordered pm__ordered an__ordered cd__ordered ct__ordered), f_marked_address := g_marked_address, d_marked_address := (PySem.W.fnOf "marked_address" "marked_address" (defArgs s_marked_address) (defBody s_marked_address) (defScope s_marked_address) .none kV_marked_address dc_marked_address pm_marked_address an_marked_address cd_marked_address ct_marked_address), f_area_between := g_area_between, d_area_between := (PySem.W.fnOf "area_between" "area_between" (defArgs s_area_between) (defBody s_area_between) (defScope s_area_between) .none kV_area_between dc_area_between pm_area_between an_area_between cd_area_between ct_area_between), m_init := i_at_R, e_init := (PySem.W.fnOf "__init__" "Area.__init__" (defArgs s_Area_init) (defBody s_Area_init) (defScope s_Area_init) .none (.ref D_R) dc_iR pm_iR an_iR cd_iR ct_iR), m_eq := m_R___eq__, e_eq := (PySem.W.fnOf "__eq__" "Area.__eq__" (defArgs s_Area___eq__) (defBody s_Area___eq__) (defScope s_Area___eq__) .none kV_R___eq__ dc_R___eq__ pm_R___eq__ an_R___eq__ cd_R___eq__ ct_R___eq__), m_has := m_R_has, e_has := (PySem.W.fnOf "has" "Area.has" (defArgs s_Area_has) (defBody s_Area_has) (defScope s_Area_has) .none kV_R_has dc_R_has pm_R_has an_R_has cd_R_has ct_R_has), m_common := m_R_common, e_common := (PySem.W.fnOf "common" "Area.common" (defArgs s_Area_common) (defBody s_Area_common) (defScope s_Area_common) .none kV_R_common dc_R_common pm_R_common an_R_common cd_R_common ct_R_common), m_without := m_R_without, e_without := (PySem.W.fnOf "without" "Area.without" (defArgs s_Area_without) (defBody s_Area_without) (defScope s_Area_without) .none kV_R_without dc_R_without pm_R_without an_R_without cd_R_without ct_R_without), m_cells := m_R_cells, e_cells := (PySem.W.fnOf "cells" "Area.cells" (defArgs s_Area_cells) (defBody s_Area_cells) (defScope s_Area_cells) .none kV_R_cells dc_R_cells pm_R_cells an_R_cells cd_R_cells ct_R_cells), m_part := m_R__part, e_part := (PySem.W.fnOf "_part" "Area._part" (defArgs s_Area__part) (defBody s_Area__part) (defScope s_Area__part) .none kV_R__part dc_R__part pm_R__part an_R__part cd_R__part ct_R__part) } : AdR) := { mg_Area := PySem.W.mg_of X G a_R, n_tuple := PySem.W.mg_none_of X G z_tuple, n_max := PySem.W.mg_none_of X G z_max, n_min := PySem.W.mg_none_of X G z_min, n_range := PySem.W.mg_none_of X G z_range, mg_MOST_CELLS := ⟨_, PySem.W.mg_of X G a_MOST⟩, cl := cl_R, mkA := mk2_R, ha := ha_R, hn := hn, ht := ht, hm := hm_R, n_first := nA_R_first, n_last := nA_R_last, n_whole := nA_R_whole, n_sheet := nA_R_sheet, n_height := nA_R_height, n_width := nA_R_width, mg_check_address := PySem.W.mg_of X G a_check_address, F_check_address := F_check_address, b_check_address := b_check_address, mg_check_area := PySem.W.mg_of X G a_check_area, F_check_area := F_check_area, b_check_area := b_check_area, mg_may_meet := PySem.W.mg_of X G a_may_meet, F_may_meet := F_may_meet, b_may_meet := b_may_meet, mg__ordered := PySem.W.mg_of X G a__ordered, F__ordered := F__ordered, b__ordered := b__ordered, mg_marked_address := PySem.W.mg_of X G a_marked_address, F_marked_address := F_marked_address, b_marked_address := b_marked_address, mg_area_between := PySem.W.mg_of X G a_area_between, F_area_between := F_area_between, b_area_between := b_area_between, F_init := fun_mk (st := s_Area_init) l_iR c_iR k_iR, F_eq := F_R___eq__, b_eq := b_R___eq__, h_eq := h_R___eq__, F_has := F_R_has, b_has := b_R_has, h_has := h_R_has, F_common := F_R_common, b_common := b_R_common, h_common := h_R_common, F_without := F_R_without, b_without := b_R_without, h_without := h_R_without, F_cells := F_R_cells, b_cells := b_R_cells, h_cells := h_R_cells, F_part := F_R__part, b_part := b_R__part, h_part := h_R__part }
  have MK : TxtK K ({ C := C_A, CO := C_O, iO := f_O, dO := (PySem.W.fnOf "__init__" "OffGrid.__init__" (defArgs s_OffGrid_init) (defBody s_OffGrid_init) (defScope s_OffGrid_init) .none kV_iO dc_iO pm_iO an_iO cd_iO ct_iO), f_init := i_at_A, f_eq := m_A___eq__, f_pushed := i_at_A, f_bare := i_at_A, d_init := (PySem.W.fnOf "__init__" "Address.__init__" (defArgs s_Address_init) (defBody s_Address_init) (defScope s_Address_init) .none (.ref D_A) dc_iA pm_iA an_iA cd_iA ct_iA), d_eq := (PySem.W.fnOf "__eq__" "Address.__eq__" (defArgs s_Address___eq__) (defBody s_Address___eq__) (defScope s_Address___eq__) .none kV_A___eq__ dc_A___eq__ pm_A___eq__ an_A___eq__ cd_A___eq__ ct_A___eq__), d_pushed := (PySem.W.fnOf "__init__" "Address.__init__" (defArgs s_Address_init) (defBody s_Address_init) (defScope s_Address_init) .none (.ref D_A) dc_iA pm_iA an_iA cd_iA ct_iA), d_bare := (PySem.W.fnOf "__init__" "Address.__init__" (defArgs s_Address_init) (defBody s_Address_init) (defScope s_Address_init) .none (.ref D_A) dc_iA pm_iA an_iA cd_iA ct_iA) } : AdC) ({ CA := C_R, f_check_address := g_check_address, d_check_address := (PySem.W.fnOf "check_address" "check_address" (defArgs s_check_address) (defBody s_check_address) (defScope s_check_address) .none kV_check_address dc_check_address pm_check_address an_check_address cd_check_address ct_check_address), f_check_area := g_check_area, d_check_area := (PySem.W.fnOf "check_area" "check_area" (defArgs s_check_area) (defBody s_check_area) (defScope s_check_area) .none kV_check_area dc_check_area pm_check_area an_check_area cd_check_area ct_check_area), f_may_meet := g_may_meet, d_may_meet := (PySem.W.fnOf "may_meet" "may_meet" (defArgs s_may_meet) (defBody s_may_meet) (defScope s_may_meet) .none kV_may_meet dc_may_meet pm_may_meet an_may_meet cd_may_meet ct_may_meet), f__ordered := g__ordered, d__ordered := (PySem.W.fnOf "_ordered" "_ordered" (defArgs s__ordered) (defBody s__ordered) (defScope s__ordered) .none kV__ordered dc__ordered pm__ordered an__ordered cd__ordered ct__ordered), f_marked_address := g_marked_address, d_marked_address := (PySem.W.fnOf "marked_address" "marked_address" (defArgs s_marked_address) (defBody s_marked_address) (defScope s_marked_address) .none kV_marked_address dc_marked_address pm_marked_address an_marked_address cd_marked_address ct_marked_address), f_area_between := g_area_between, d_area_between := (PySem.W.fnOf "area_between" "area_between" (defArgs s_area_between) (defBody s_area_between) (defScope s_area_between) .none kV_area_between dc_area_between pm_area_between an_area_between cd_area_between ct_area_between), m_init := i_at_R, e_init := (PySem.W.fnOf "__init__" "Area.__init__" (defArgs s_Area_init) (defBody s_Area_init) (defScope s_Area_init) .none (.ref D_R) dc_iR pm_iR an_iR cd_iR ct_iR), m_eq := m_R___eq__, e_eq := (PySem.W.fnOf "__eq__" "Area.__eq__" (defArgs s_Area___eq__) (defBody s_Area___eq__) (defScope s_Area___eq__) .none kV_R___eq__ dc_R___eq__ pm_R___eq__ an_R___eq__ cd_R___eq__ ct_R___eq__), m_has := m_R_has, e_has := (PySem.W.fnOf "has" "Area.has" (defArgs s_Area_has) (defBody s_Area_has) (defScope s_Area_has) .none kV_R_has dc_R_has pm_R_has an_R_has cd_R_has ct_R_has), m_common := m_R_common, e_common := (PySem.W.fnOf "common" "Area.common" (defArgs s_Area_common) (defBody s_Area_common) (defScope s_Area_common) .none kV_R_common dc_R_common pm_R_common an_R_common cd_R_common ct_R_common), m_without := m_R_without, e_without := (PySem.W.fnOf "without" "Area.without" (defArgs s_Area_without) (defBody s_Area_without) (defScope s_Area_without) .none kV_R_without dc_R_without pm_R_without an_R_without cd_R_without ct_R_without), m_cells := m_R_cells, e_cells := (PySem.W.fnOf "cells" "Area.cells" (defArgs s_Area_cells) (defBody s_Area_cells) (defScope s_Area_cells) .none kV_R_cells dc_R_cells pm_R_cells an_R_cells cd_R_cells ct_R_cells), m_part := m_R__part, e_part := (PySem.W.fnOf "_part" "Area._part" (defArgs s_Area__part) (defBody s_Area__part) (defScope s_Area__part) .none kV_R__part dc_R__part pm_R__part an_R__part cd_R__part ct_R__part) } : AdR) mv := ⟨nRA, f_A___eq__, if_A___eq__, b_A___eq__, f_R___eq__, if_R___eq__, kb1⟩
  have MX : TxtD K ({ C := C_A, CO := C_O, iO := f_O, dO := (PySem.W.fnOf "__init__" "OffGrid.__init__" (defArgs s_OffGrid_init) (defBody s_OffGrid_init) (defScope s_OffGrid_init) .none kV_iO dc_iO pm_iO an_iO cd_iO ct_iO), f_init := i_at_A, f_eq := m_A___eq__, f_pushed := i_at_A, f_bare := i_at_A, d_init := (PySem.W.fnOf "__init__" "Address.__init__" (defArgs s_Address_init) (defBody s_Address_init) (defScope s_Address_init) .none (.ref D_A) dc_iA pm_iA an_iA cd_iA ct_iA), d_eq := (PySem.W.fnOf "__eq__" "Address.__eq__" (defArgs s_Address___eq__) (defBody s_Address___eq__) (defScope s_Address___eq__) .none kV_A___eq__ dc_A___eq__ pm_A___eq__ an_A___eq__ cd_A___eq__ ct_A___eq__), d_pushed := (PySem.W.fnOf "__init__" "Address.__init__" (defArgs s_Address_init) (defBody s_Address_init) (defScope s_Address_init) .none (.ref D_A) dc_iA pm_iA an_iA cd_iA ct_iA), d_bare := (PySem.W.fnOf "__init__" "Address.__init__" (defArgs s_Address_init) (defBody s_Address_init) (defScope s_Address_init) .none (.ref D_A) dc_iA pm_iA an_iA cd_iA ct_iA) } : AdC) ({ CA := C_R, f_check_address := g_check_address, d_check_address := (PySem.W.fnOf "check_address" "check_address" (defArgs s_check_address) (defBody s_check_address) (defScope s_check_address) .none kV_check_address dc_check_address pm_check_address an_check_address cd_check_address ct_check_address), f_check_area := g_check_area, d_check_area := (PySem.W.fnOf "check_area" "check_area" (defArgs s_check_area) (defBody s_check_area) (defScope s_check_area) .none kV_check_area dc_check_area pm_check_area an_check_area cd_check_area ct_check_area), f_may_meet := g_may_meet, d_may_meet := (PySem.W.fnOf "may_meet" "may_meet" (defArgs s_may_meet) (defBody s_may_meet) (defScope s_may_meet) .none kV_may_meet dc_may_meet pm_may_meet an_may_meet cd_may_meet ct_may_meet), f__ordered := g__ordered, d__ordered := (PySem.W.fnOf "_ordered" "_ordered" (defArgs s__ordered) (defBody s__ordered) (defScope s__ordered) .none kV__ordered dc__ordered pm__ordered an__ordered cd__ordered ct__ordered), f_marked_address := g_marked_address, d_marked_address := (PySem.W.fnOf "marked_address" "marked_address" (defArgs s_marked_address) (defBody s_marked_address) (defScope s_marked_address) .none kV_marked_address dc_marked_address pm_marked_address an_marked_address cd_marked_address ct_marked_address), f_area_between := g_area_between, d_area_between := (PySem.W.fnOf "area_between" "area_between" (defArgs s_area_between) (defBody s_area_between) (defScope s_area_between) .none kV_area_between dc_area_between pm_area_between an_area_between cd_area_between ct_area_between), m_init := i_at_R, e_init := (PySem.W.fnOf "__init__" "Area.__init__" (defArgs s_Area_init) (defBody s_Area_init) (defScope s_Area_init) .none (.ref D_R) dc_iR pm_iR an_iR cd_iR ct_iR), m_eq := m_R___eq__, e_eq := (PySem.W.fnOf "__eq__" "Area.__eq__" (defArgs s_Area___eq__) (defBody s_Area___eq__) (defScope s_Area___eq__) .none kV_R___eq__ dc_R___eq__ pm_R___eq__ an_R___eq__ cd_R___eq__ ct_R___eq__), m_has := m_R_has, e_has := (PySem.W.fnOf "has" "Area.has" (defArgs s_Area_has) (defBody s_Area_has) (defScope s_Area_has) .none kV_R_has dc_R_has pm_R_has an_R_has cd_R_has ct_R_has), m_common := m_R_common, e_common := (PySem.W.fnOf "common" "Area.common" (defArgs s_Area_common) (defBody s_Area_common) (defScope s_Area_common) .none kV_R_common dc_R_common pm_R_common an_R_common cd_R_common ct_R_common), m_without := m_R_without, e_without := (PySem.W.fnOf "without" "Area.without" (defArgs s_Area_without) (defBody s_Area_without) (defScope s_Area_without) .none kV_R_without dc_R_without pm_R_without an_R_without cd_R_without ct_R_without), m_cells := m_R_cells, e_cells := (PySem.W.fnOf "cells" "Area.cells" (defArgs s_Area_cells) (defBody s_Area_cells) (defScope s_Area_cells) .none kV_R_cells dc_R_cells pm_R_cells an_R_cells cd_R_cells ct_R_cells), m_part := m_R__part, e_part := (PySem.W.fnOf "_part" "Area._part" (defArgs s_Area__part) (defBody s_Area__part) (defScope s_Area__part) .none kV_R__part dc_R__part pm_R__part an_R__part cd_R__part ct_R__part) } : AdR) mc mr ma := ⟨kbc, kbr, kba⟩
  have ME : TxtE K ({ CA := C_R, f_check_address := g_check_address, d_check_address := (PySem.W.fnOf "check_address" "check_address" (defArgs s_check_address) (defBody s_check_address) (defScope s_check_address) .none kV_check_address dc_check_address pm_check_address an_check_address cd_check_address ct_check_address), f_check_area := g_check_area, d_check_area := (PySem.W.fnOf "check_area" "check_area" (defArgs s_check_area) (defBody s_check_area) (defScope s_check_area) .none kV_check_area dc_check_area pm_check_area an_check_area cd_check_area ct_check_area), f_may_meet := g_may_meet, d_may_meet := (PySem.W.fnOf "may_meet" "may_meet" (defArgs s_may_meet) (defBody s_may_meet) (defScope s_may_meet) .none kV_may_meet dc_may_meet pm_may_meet an_may_meet cd_may_meet ct_may_meet), f__ordered := g__ordered, d__ordered := (PySem.W.fnOf "_ordered" "_ordered" (defArgs s__ordered) (defBody s__ordered) (defScope s__ordered) .none kV__ordered dc__ordered pm__ordered an__ordered cd__ordered ct__ordered), f_marked_address := g_marked_address, d_marked_address := (PySem.W.fnOf "marked_address" "marked_address" (defArgs s_marked_address) (defBody s_marked_address) (defScope s_marked_address) .none kV_marked_address dc_marked_address pm_marked_address an_marked_address cd_marked_address ct_marked_address), f_area_between := g_area_between, d_area_between := (PySem.W.fnOf "area_between" "area_between" (defArgs s_area_between) (defBody s_area_between) (defScope s_area_between) .none kV_area_between dc_area_between pm_area_between an_area_between cd_area_between ct_area_between), m_init := i_at_R, e_init := (PySem.W.fnOf "__init__" "Area.__init__" (defArgs s_Area_init) (defBody s_Area_init) (defScope s_Area_init) .none (.ref D_R) dc_iR pm_iR an_iR cd_iR ct_iR), m_eq := m_R___eq__, e_eq := (PySem.W.fnOf "__eq__" "Area.__eq__" (defArgs s_Area___eq__) (defBody s_Area___eq__) (defScope s_Area___eq__) .none kV_R___eq__ dc_R___eq__ pm_R___eq__ an_R___eq__ cd_R___eq__ ct_R___eq__), m_has := m_R_has, e_has := (PySem.W.fnOf "has" "Area.has" (defArgs s_Area_has) (defBody s_Area_has) (defScope s_Area_has) .none kV_R_has dc_R_has pm_R_has an_R_has cd_R_has ct_R_has), m_common := m_R_common, e_common := (PySem.W.fnOf "common" "Area.common" (defArgs s_Area_common) (defBody s_Area_common) (defScope s_Area_common) .none kV_R_common dc_R_common pm_R_common an_R_common cd_R_common ct_R_common), m_without := m_R_without, e_without := (PySem.W.fnOf "without" "Area.without" (defArgs s_Area_without) (defBody s_Area_without) (defScope s_Area_without) .none kV_R_without dc_R_without pm_R_without an_R_without cd_R_without ct_R_without), m_cells := m_R_cells, e_cells := (PySem.W.fnOf "cells" "Area.cells" (defArgs s_Area_cells) (defBody s_Area_cells) (defScope s_Area_cells) .none kV_R_cells dc_R_cells pm_R_cells an_R_cells cd_R_cells ct_R_cells), m_part := m_R__part, e_part := (PySem.W.fnOf "_part" "Area._part" (defArgs s_Area__part) (defBody s_Area__part) (defScope s_Area__part) .none kV_R__part dc_R__part pm_R__part an_R__part cd_R__part ct_R__part) } : AdR) N_R := ⟨eqc_R, ⟨_, rfl⟩⟩
  have TN6 : TxtN6 K mg ({ f_made := g_l_made, d_made := (PySem.W.fnOf "_law_made" "_law_made" (defArgs s_l_made) (defBody s_l_made) (defScope s_l_made) .none kV_l_made dc_l_made pm_l_made an_l_made cd_l_made ct_l_made), f_is := g_l_is, d_is := (PySem.W.fnOf "_law_is" "_law_is" (defArgs s_l_is) (defBody s_l_is) (defScope s_l_is) .none kV_l_is dc_l_is pm_l_is an_l_is cd_l_is ct_l_is) } : AdN6) := { mg_l_made := PySem.W.mg_of X G a_l_made, F_l_made := F_l_made, b_l_made := b_l_made, mg_l_is := PySem.W.mg_of X G a_l_is, F_l_is := F_l_is, b_l_is := b_l_is }
  have TN : TxtN K mg ({ f_row_text := g_l_row_text, d_row_text := (PySem.W.fnOf "_law_row_text" "_law_row_text" (defArgs s_l_row_text) (defBody s_l_row_text) (defScope s_l_row_text) .none kV_l_row_text dc_l_row_text pm_l_row_text an_l_row_text cd_l_row_text ct_l_row_text), f_column_text := g_l_column_text, d_column_text := (PySem.W.fnOf "_law_column_text" "_law_column_text" (defArgs s_l_column_text) (defBody s_l_column_text) (defScope s_l_column_text) .none kV_l_column_text dc_l_column_text pm_l_column_text an_l_column_text cd_l_column_text ct_l_column_text), f_sheet_text := g_l_sheet_text, d_sheet_text := (PySem.W.fnOf "_law_sheet_text" "_law_sheet_text" (defArgs s_l_sheet_text) (defBody s_l_sheet_text) (defScope s_l_sheet_text) .none kV_l_sheet_text dc_l_sheet_text pm_l_sheet_text an_l_sheet_text cd_l_sheet_text ct_l_sheet_text) } : AdN) := { n_str := PySem.W.mg_none_of X G z_str, mg_l_row_text := PySem.W.mg_of X G a_l_row_text, F_l_row_text := F_l_row_text, b_l_row_text := b_l_row_text, mg_l_column_text := PySem.W.mg_of X G a_l_column_text, F_l_column_text := F_l_column_text, b_l_column_text := b_l_column_text, mg_l_sheet_text := PySem.W.mg_of X G a_l_sheet_text, F_l_sheet_text := F_l_sheet_text, b_l_sheet_text := b_l_sheet_text }
  have T2 : TxtN2 K mg ({ f_is_digits := g_l_is_digits, d_is_digits := (PySem.W.fnOf "_law_is_digits" "_law_is_digits" (defArgs s_l_is_digits) (defBody s_l_is_digits) (defScope s_l_is_digits) .none kV_l_is_digits dc_l_is_digits pm_l_is_digits an_l_is_digits cd_l_is_digits ct_l_is_digits), f_is_sheet := g_l_is_sheet, d_is_sheet := (PySem.W.fnOf "_law_is_sheet" "_law_is_sheet" (defArgs s_l_is_sheet) (defBody s_l_is_sheet) (defScope s_l_is_sheet) .none kV_l_is_sheet dc_l_is_sheet pm_l_is_sheet an_l_is_sheet cd_l_is_sheet ct_l_is_sheet) } : AdN2) := { mg_l_is_digits := PySem.W.mg_of X G a_l_is_digits, F_l_is_digits := F_l_is_digits, b_l_is_digits := b_l_is_digits, mg_l_is_sheet := PySem.W.mg_of X G a_l_is_sheet, F_l_is_sheet := F_l_is_sheet, b_l_is_sheet := b_l_is_sheet }
  have TN3 : TxtN3 K mg ({ f_read_row := g_l_read_row, d_read_row := (PySem.W.fnOf "_law_read_row" "_law_read_row" (defArgs s_l_read_row) (defBody s_l_read_row) (defScope s_l_read_row) .none kV_l_read_row dc_l_read_row pm_l_read_row an_l_read_row cd_l_read_row ct_l_read_row), f_read_column := g_l_read_column, d_read_column := (PySem.W.fnOf "_law_read_column" "_law_read_column" (defArgs s_l_read_column) (defBody s_l_read_column) (defScope s_l_read_column) .none kV_l_read_column dc_l_read_column pm_l_read_column an_l_read_column cd_l_read_column ct_l_read_column), f_read_cell := g_l_read_cell, d_read_cell := (PySem.W.fnOf "_law_read_cell" "_law_read_cell" (defArgs s_l_read_cell) (defBody s_l_read_cell) (defScope s_l_read_cell) .none kV_l_read_cell dc_l_read_cell pm_l_read_cell an_l_read_cell cd_l_read_cell ct_l_read_cell) } : AdN3) := { mg_l_read_row := PySem.W.mg_of X G a_l_read_row, F_l_read_row := F_l_read_row, b_l_read_row := b_l_read_row, mg_l_read_column := PySem.W.mg_of X G a_l_read_column, F_l_read_column := F_l_read_column, b_l_read_column := b_l_read_column, mg_l_read_cell := PySem.W.mg_of X G a_l_read_cell, F_l_read_cell := F_l_read_cell, b_l_read_cell := b_l_read_cell }
  have TN4 : TxtN4 K mg ({ f_sheet_name := g_l_sheet_name, d_sheet_name := (PySem.W.fnOf "_law_sheet_name" "_law_sheet_name" (defArgs s_l_sheet_name) (defBody s_l_sheet_name) (defScope s_l_sheet_name) .none kV_l_sheet_name dc_l_sheet_name pm_l_sheet_name an_l_sheet_name cd_l_sheet_name ct_l_sheet_name) } : AdN4) := { mg_l_sheet_name := PySem.W.mg_of X G a_l_sheet_name, F_l_sheet_name := F_l_sheet_name, b_l_sheet_name := b_l_sheet_name }
  have TN5 : TxtN5 K mg ({ f_spoilt := g_l_spoilt, d_spoilt := (PySem.W.fnOf "_law_spoilt" "_law_spoilt" (defArgs s_l_spoilt) (defBody s_l_spoilt) (defScope s_l_spoilt) .none kV_l_spoilt dc_l_spoilt pm_l_spoilt an_l_spoilt cd_l_spoilt ct_l_spoilt), f_parted := g_l_parted, d_parted := (PySem.W.fnOf "_law_parted" "_law_parted" (defArgs s_l_parted) (defBody s_l_parted) (defScope s_l_parted) .none kV_l_parted dc_l_parted pm_l_parted an_l_parted cd_l_parted ct_l_parted) } : AdN5) := { mg_l_spoilt := PySem.W.mg_of X G a_l_spoilt, F_l_spoilt := F_l_spoilt, b_l_spoilt := b_l_spoilt, mg_l_parted := PySem.W.mg_of X G a_l_parted, F_l_parted := F_l_parted, b_l_parted := b_l_parted }
  have TH : TxtH K mg ({ f_signs := g_l_signs, d_signs := (PySem.W.fnOf "_law_signs" "_law_signs" (defArgs s_l_signs) (defBody s_l_signs) (defScope s_l_signs) .none kV_l_signs dc_l_signs pm_l_signs an_l_signs cd_l_signs ct_l_signs), f_letters := g_l_letters, d_letters := (PySem.W.fnOf "_law_letters" "_law_letters" (defArgs s_l_letters) (defBody s_l_letters) (defScope s_l_letters) .none kV_l_letters dc_l_letters pm_l_letters an_l_letters cd_l_letters ct_l_letters), f_column := g_l_column, d_column := (PySem.W.fnOf "_law_column" "_law_column" (defArgs s_l_column) (defBody s_l_column) (defScope s_l_column) .none kV_l_column dc_l_column pm_l_column an_l_column cd_l_column ct_l_column), f_is_letters := g_l_is_letters, d_is_letters := (PySem.W.fnOf "_law_is_letters" "_law_is_letters" (defArgs s_l_is_letters) (defBody s_l_is_letters) (defScope s_l_is_letters) .none kV_l_is_letters dc_l_is_letters pm_l_is_letters an_l_is_letters cd_l_is_letters ct_l_is_letters), f_mixed_case := g_l_mixed_case, d_mixed_case := (PySem.W.fnOf "_law_mixed_case" "_law_mixed_case" (defArgs s_l_mixed_case) (defBody s_l_mixed_case) (defScope s_l_mixed_case) .none kV_l_mixed_case dc_l_mixed_case pm_l_mixed_case an_l_mixed_case cd_l_mixed_case ct_l_mixed_case), f_pick := g_l_pick, d_pick := (PySem.W.fnOf "_law_pick" "_law_pick" (defArgs s_l_pick) (defBody s_l_pick) (defScope s_l_pick) .none kV_l_pick dc_l_pick pm_l_pick an_l_pick cd_l_pick ct_l_pick), f_draw := g_l_draw, d_draw := (PySem.W.fnOf "_law_draw" "_law_draw" (defArgs s_l_draw) (defBody s_l_draw) (defScope s_l_draw) .none kV_l_draw dc_l_draw pm_l_draw an_l_draw cd_l_draw ct_l_draw), f_pen := g_l_pen, d_pen := (PySem.W.fnOf "_law_pen" "_law_pen" (defArgs s_l_pen) (defBody s_l_pen) (defScope s_l_pen) .none kV_l_pen dc_l_pen pm_l_pen an_l_pen cd_l_pen ct_l_pen) } : AdL) := { n_list := PySem.W.mg_none_of X G z_list, n_int := PySem.W.mg_none_of X G z_int, n_len := PySem.W.mg_none_of X G z_len, n_range := PySem.W.mg_none_of X G z_range, n_min := PySem.W.mg_none_of X G z_min, n_max := PySem.W.mg_none_of X G z_max, n_sorted := PySem.W.mg_none_of X G z_sorted, mg_l_signs := PySem.W.mg_of X G a_l_signs, F_l_signs := F_l_signs, b_l_signs := b_l_signs, mg_l_letters := PySem.W.mg_of X G a_l_letters, F_l_letters := F_l_letters, b_l_letters := b_l_letters, mg_l_column := PySem.W.mg_of X G a_l_column, F_l_column := F_l_column, b_l_column := b_l_column, mg_l_is_letters := PySem.W.mg_of X G a_l_is_letters, F_l_is_letters := F_l_is_letters, b_l_is_letters := b_l_is_letters, mg_l_mixed_case := PySem.W.mg_of X G a_l_mixed_case, F_l_mixed_case := F_l_mixed_case, b_l_mixed_case := b_l_mixed_case, mg_l_pick := PySem.W.mg_of X G a_l_pick, F_l_pick := F_l_pick, b_l_pick := b_l_pick, mg_l_draw := PySem.W.mg_of X G a_l_draw, F_l_draw := F_l_draw, b_l_draw := b_l_draw, mg_l_pen := PySem.W.mg_of X G a_l_pen, F_l_pen := F_l_pen, b_l_pen := b_l_pen }
  have TL : TxtL K mg ({ f_corners := g_l_corners, d_corners := (PySem.W.fnOf "_law_corners" "_law_corners" (defArgs s_l_corners) (defBody s_l_corners) (defScope s_l_corners) .none kV_l_corners dc_l_corners pm_l_corners an_l_corners cd_l_corners ct_l_corners), f_in_order := g_l_in_order, d_in_order := (PySem.W.fnOf "_law_in_order" "_law_in_order" (defArgs s_l_in_order) (defBody s_l_in_order) (defScope s_l_in_order) .none kV_l_in_order dc_l_in_order pm_l_in_order an_l_in_order (.ref c_I) ct_l_in_order), f_area := g_l_area, d_area := (PySem.W.fnOf "_law_area" "_law_area" (defArgs s_l_area) (defBody s_l_area) (defScope s_l_area) .none kV_l_area dc_l_area pm_l_area an_l_area cd_l_area ct_l_area), f_normal := g_l_normal, d_normal := (PySem.W.fnOf "_law_normal" "_law_normal" (defArgs s_l_normal) (defBody s_l_normal) (defScope s_l_normal) .none kV_l_normal dc_l_normal pm_l_normal an_l_normal cd_l_normal ct_l_normal), f_corner := g_l_corner, d_corner := (PySem.W.fnOf "_law_corner" "_law_corner" (defArgs s_l_corner) (defBody s_l_corner) (defScope s_l_corner) .none kV_l_corner dc_l_corner pm_l_corner an_l_corner cd_l_corner ct_l_corner), f_area_made := g_l_area_made, d_area_made := (PySem.W.fnOf "_law_area_made" "_law_area_made" (defArgs s_l_area_made) (defBody s_l_area_made) (defScope s_l_area_made) .none kV_l_area_made dc_l_area_made pm_l_area_made an_l_area_made cd_l_area_made ct_l_area_made), f_is_area := g_l_is_area, d_is_area := (PySem.W.fnOf "_law_is_area" "_law_is_area" (defArgs s_l_is_area) (defBody s_l_is_area) (defScope s_l_is_area) .none kV_l_is_area dc_l_is_area pm_l_is_area an_l_is_area cd_l_is_area ct_l_is_area) } : AdW) := { mg_l_corners := PySem.W.mg_of X G a_l_corners, F_l_corners := F_l_corners, b_l_corners := b_l_corners, mg_l_in_order := PySem.W.mg_of X G a_l_in_order, b_l_in_order := b_l_in_order, F_l_in_order := F_l_in_order, mg_l_area := PySem.W.mg_of X G a_l_area, F_l_area := F_l_area, b_l_area := b_l_area, mg_l_normal := PySem.W.mg_of X G a_l_normal, F_l_normal := F_l_normal, b_l_normal := b_l_normal, mg_l_corner := PySem.W.mg_of X G a_l_corner, F_l_corner := F_l_corner, b_l_corner := b_l_corner, mg_l_area_made := PySem.W.mg_of X G a_l_area_made, F_l_area_made := F_l_area_made, b_l_area_made := b_l_area_made, mg_l_is_area := PySem.W.mg_of X G a_l_is_area, F_l_is_area := F_l_is_area, b_l_is_area := b_l_is_area }
  have TY : TxtY K mg ({ f_l_corner_text := g_l_corner_text, d_l_corner_text := (PySem.W.fnOf "_law_corner_text" "_law_corner_text" (defArgs s_l_corner_text) (defBody s_l_corner_text) (defScope s_l_corner_text) .none kV_l_corner_text dc_l_corner_text pm_l_corner_text an_l_corner_text cd_l_corner_text ct_l_corner_text), f_l_area_text := g_l_area_text, d_l_area_text := (PySem.W.fnOf "_law_area_text" "_law_area_text" (defArgs s_l_area_text) (defBody s_l_area_text) (defScope s_l_area_text) .none kV_l_area_text dc_l_area_text pm_l_area_text an_l_area_text cd_l_area_text ct_l_area_text), f_l_area_read := g_l_area_read, d_l_area_read := (PySem.W.fnOf "_law_area_read" "_law_area_read" (defArgs s_l_area_read) (defBody s_l_area_read) (defScope s_l_area_read) .none kV_l_area_read dc_l_area_read pm_l_area_read an_l_area_read cd_l_area_read ct_l_area_read), f_l_text_right := g_l_text_right, d_l_text_right := (PySem.W.fnOf "_law_text_right" "_law_text_right" (defArgs s_l_text_right) (defBody s_l_text_right) (defScope s_l_text_right) .none kV_l_text_right dc_l_text_right pm_l_text_right an_l_text_right cd_l_text_right ct_l_text_right), f_l_spoilt_right := g_l_spoilt_right, d_l_spoilt_right := (PySem.W.fnOf "_law_spoilt_right" "_law_spoilt_right" (defArgs s_l_spoilt_right) (defBody s_l_spoilt_right) (defScope s_l_spoilt_right) .none kV_l_spoilt_right dc_l_spoilt_right pm_l_spoilt_right an_l_spoilt_right (.ref c_P) ct_l_spoilt_right) } : AdY) := { mg_l_corner_text := PySem.W.mg_of X G a_l_corner_text, F_l_corner_text := F_l_corner_text, b_l_corner_text := b_l_corner_text, mg_l_area_text := PySem.W.mg_of X G a_l_area_text, F_l_area_text := F_l_area_text, b_l_area_text := b_l_area_text, mg_l_area_read := PySem.W.mg_of X G a_l_area_read, F_l_area_read := F_l_area_read, b_l_area_read := b_l_area_read, mg_l_text_right := PySem.W.mg_of X G a_l_text_right, F_l_text_right := F_l_text_right, b_l_text_right := b_l_text_right, mg_l_spoilt_right := PySem.W.mg_of X G a_l_spoilt_right, F_l_spoilt_right := F_l_spoilt_right, b_l_spoilt_right := b_l_spoilt_right }
  have TX : TxtX K mg ({ aS := aS, f_address_text := g_address_text, d_address_text := (PySem.W.fnOf "address_text" "address_text" (defArgs s_address_text) (defBody s_address_text) (defScope s_address_text) .none kV_address_text dc_address_text pm_address_text an_address_text cd_address_text ct_address_text), f_read_address := g_read_address, d_read_address := (PySem.W.fnOf "read_address" "read_address" (defArgs s_read_address) (defBody s_read_address) (defScope s_read_address) .none kV_read_address dc_read_address pm_read_address an_read_address cd_read_address ct_read_address), f_corner_text := g_corner_text, d_corner_text := (PySem.W.fnOf "corner_text" "corner_text" (defArgs s_corner_text) (defBody s_corner_text) (defScope s_corner_text) .none kV_corner_text dc_corner_text pm_corner_text an_corner_text cd_corner_text ct_corner_text), f_corners_text := g_corners_text, d_corners_text := (PySem.W.fnOf "corners_text" "corners_text" (defArgs s_corners_text) (defBody s_corners_text) (defScope s_corners_text) .none kV_corners_text dc_corners_text pm_corners_text an_corners_text cd_corners_text ct_corners_text), f_area_text := g_area_text, d_area_text := (PySem.W.fnOf "area_text" "area_text" (defArgs s_area_text) (defBody s_area_text) (defScope s_area_text) .none kV_area_text dc_area_text pm_area_text an_area_text cd_area_text ct_area_text), f_read_area := g_read_area, d_read_area := (PySem.W.fnOf "read_area" "read_area" (defArgs s_read_area) (defBody s_read_area) (defScope s_read_area) .none kV_read_area dc_read_area pm_read_area an_read_area cd_read_area ct_read_area), f__read_corner := g__read_corner, d__read_corner := (PySem.W.fnOf "_read_corner" "_read_corner" (defArgs s__read_corner) (defBody s__read_corner) (defScope s__read_corner) .none kV__read_corner dc__read_corner pm__read_corner an__read_corner cd__read_corner ct__read_corner) } : AdX) := { n_str := PySem.W.mg_none_of X G z_str, mg_SORTS := PySem.W.mg_of X G a_SORTS, s_SORTS := fun H => .inr ⟨_, _, _, l_SORTS, rfl, rfl, by show 3 ≤ sizeLine; decide, .cons rfl (.cons ⟨_, rfl⟩ (.cons ⟨_, rfl⟩ .nil))⟩, mg_address_text := PySem.W.mg_of X G a_address_text, F_address_text := F_address_text, b_address_text := b_address_text, mg_read_address := PySem.W.mg_of X G a_read_address, F_read_address := F_read_address, b_read_address := b_read_address, mg_corner_text := PySem.W.mg_of X G a_corner_text, F_corner_text := F_corner_text, b_corner_text := b_corner_text, mg_corners_text := PySem.W.mg_of X G a_corners_text, F_corners_text := F_corners_text, b_corners_text := b_corners_text, mg_area_text := PySem.W.mg_of X G a_area_text, F_area_text := F_area_text, b_area_text := b_area_text, mg_read_area := PySem.W.mg_of X G a_read_area, F_read_area := F_read_area, b_read_area := b_read_area, mg__read_corner := PySem.W.mg_of X G a__read_corner, F__read_corner := F__read_corner, b__read_corner := b__read_corner }
  have RT : TxtT K mg ({ S := S, CB := C_B, CN := C_N, iB := f_B, iN := f_N, dB := (PySem.W.fnOf "__init__" "BadValue.__init__" (defArgs s_BadValue_init) (defBody s_BadValue_init) (defScope s_BadValue_init) .none kV_iB dc_iB pm_iB an_iB cd_iB ct_iB), dN := (PySem.W.fnOf "__init__" "NotAName.__init__" (defArgs s_NotAName_init) (defBody s_NotAName_init) (defScope s_NotAName_init) .none kV_iN dc_iN pm_iN an_iN cd_iN ct_iN), f_is_integer := g_is_integer, f_check_range := g_check_range, f_check_string := g_check_string, f_letters_of := g_letters_of, f_is_letters := g_is_letters, f_is_column_text := g_is_column_text, f_column_of := g_column_of, d_is_integer := (PySem.W.fnOf "is_integer" "is_integer" (defArgs s_is_integer) (defBody s_is_integer) (defScope s_is_integer) .none kV_is_integer dc_is_integer pm_is_integer an_is_integer cd_is_integer ct_is_integer), d_check_range := (PySem.W.fnOf "check_range" "check_range" (defArgs s_check_range) (defBody s_check_range) (defScope s_check_range) .none kV_check_range dc_check_range pm_check_range an_check_range cd_check_range ct_check_range), d_check_string := (PySem.W.fnOf "check_string" "check_string" (defArgs s_check_string) (defBody s_check_string) (defScope s_check_string) .none kV_check_string dc_check_string pm_check_string an_check_string cd_check_string ct_check_string), d_letters_of := (PySem.W.fnOf "letters_of" "letters_of" (defArgs s_letters_of) (defBody s_letters_of) (defScope s_letters_of) .none kV_letters_of dc_letters_of pm_letters_of an_letters_of cd_letters_of ct_letters_of), d_is_letters := (PySem.W.fnOf "is_letters" "is_letters" (defArgs s_is_letters) (defBody s_is_letters) (defScope s_is_letters) .none kV_is_letters dc_is_letters pm_is_letters an_is_letters cd_is_letters ct_is_letters), d_is_column_text := (PySem.W.fnOf "is_column_text" "is_column_text" (defArgs s_is_column_text) (defBody s_is_column_text) (defScope s_is_column_text) .none kV_is_column_text dc_is_column_text pm_is_column_text an_is_column_text cd_is_column_text ct_is_column_text), d_column_of := (PySem.W.fnOf "column_of" "column_of" (defArgs s_column_of) (defBody s_column_of) (defScope s_column_of) .none kV_column_of dc_column_of pm_column_of an_column_of cd_column_of ct_column_of) } : Ads) C_O C_M f_O f_M (PySem.W.fnOf "__init__" "OffGrid.__init__" (defArgs s_OffGrid_init) (defBody s_OffGrid_init) (defScope s_OffGrid_init) .none kV_iO dc_iO pm_iO an_iO cd_iO ct_iO) (PySem.W.fnOf "__init__" "TooMany.__init__" (defArgs s_TooMany_init) (defBody s_TooMany_init) (defScope s_TooMany_init) .none kV_iM dc_iM pm_iM an_iM cd_iM ct_iM) := ⟨e_B, e_N, e_O, e_M, nMB, nNB, nMN, nMO⟩
  have RK : TxtRk K mg ({ S := S, CB := C_B, CN := C_N, iB := f_B, iN := f_N, dB := (PySem.W.fnOf "__init__" "BadValue.__init__" (defArgs s_BadValue_init) (defBody s_BadValue_init) (defScope s_BadValue_init) .none kV_iB dc_iB pm_iB an_iB cd_iB ct_iB), dN := (PySem.W.fnOf "__init__" "NotAName.__init__" (defArgs s_NotAName_init) (defBody s_NotAName_init) (defScope s_NotAName_init) .none kV_iN dc_iN pm_iN an_iN cd_iN ct_iN), f_is_integer := g_is_integer, f_check_range := g_check_range, f_check_string := g_check_string, f_letters_of := g_letters_of, f_is_letters := g_is_letters, f_is_column_text := g_is_column_text, f_column_of := g_column_of, d_is_integer := (PySem.W.fnOf "is_integer" "is_integer" (defArgs s_is_integer) (defBody s_is_integer) (defScope s_is_integer) .none kV_is_integer dc_is_integer pm_is_integer an_is_integer cd_is_integer ct_is_integer), d_check_range := (PySem.W.fnOf "check_range" "check_range" (defArgs s_check_range) (defBody s_check_range) (defScope s_check_range) .none kV_check_range dc_check_range pm_check_range an_check_range cd_check_range ct_check_range), d_check_string := (PySem.W.fnOf "check_string" "check_string" (defArgs s_check_string) (defBody s_check_string) (defScope s_check_string) .none kV_check_string dc_check_string pm_check_string an_check_string cd_check_string ct_check_string), d_letters_of := (PySem.W.fnOf "letters_of" "letters_of" (defArgs s_letters_of) (defBody s_letters_of) (defScope s_letters_of) .none kV_letters_of dc_letters_of pm_letters_of an_letters_of cd_letters_of ct_letters_of), d_is_letters := (PySem.W.fnOf "is_letters" "is_letters" (defArgs s_is_letters) (defBody s_is_letters) (defScope s_is_letters) .none kV_is_letters dc_is_letters pm_is_letters an_is_letters cd_is_letters ct_is_letters), d_is_column_text := (PySem.W.fnOf "is_column_text" "is_column_text" (defArgs s_is_column_text) (defBody s_is_column_text) (defScope s_is_column_text) .none kV_is_column_text dc_is_column_text pm_is_column_text an_is_column_text cd_is_column_text ct_is_column_text), d_column_of := (PySem.W.fnOf "column_of" "column_of" (defArgs s_column_of) (defBody s_column_of) (defScope s_column_of) .none kV_column_of dc_column_of pm_column_of an_column_of cd_column_of ct_column_of) } : Ads) C_O C_M f_O f_M (PySem.W.fnOf "__init__" "OffGrid.__init__" (defArgs s_OffGrid_init) (defBody s_OffGrid_init) (defScope s_OffGrid_init) .none kV_iO dc_iO pm_iO an_iO cd_iO ct_iO) (PySem.W.fnOf "__init__" "TooMany.__init__" (defArgs s_TooMany_init) (defBody s_TooMany_init) (defScope s_TooMany_init) .none kV_iM dc_iM pm_iM an_iM cd_iM ct_iM) g_l_told (PySem.W.fnOf "_law_told" "_law_told" (defArgs s_l_told) (defBody s_l_told) (defScope s_l_told) .none kV_l_told dc_l_told pm_l_told an_l_told cd_l_told ct_l_told) := ⟨PySem.W.mg_of X G a_l_told, F_l_told, b_l_told, RT⟩
  have kAA : PySem.W.kitOne K (.ref C_R) (.ref C_R) = some true := by
    unfold PySem.W.kitOne
    rw [if_pos (by simp)]
  have zC : ∀ n ∈ ["NoneType", "int", "bool", "list", "tuple"], PySem.W.kitOne K (.type n) (.ref C_R) = some false := fun n hn => by
    simp only [List.mem_cons, List.not_mem_nil, or_false] at hn
    rcases hn with rfl | rfl | rfl | rfl | rfl
    · exact z1_R_NoneType
    · exact z1_R_int
    · exact z1_R_bool
    · exact z1_R_list
    · exact z1_R_tuple
  have hmI : (tI, qOf "_law_in_order") ∈ ([(tI, qOf "_law_in_order"), (tP, qOf "_law_spoilt_right"), (tL, qOf "law")] : List (Addr × Str)) := (List.mem_cons_self ..)
  have huI : ∀ x ∈ ([(tI, qOf "_law_in_order"), (tP, qOf "_law_spoilt_right"), (tL, qOf "law")] : List (Addr × Str)), x.1 = tI → x.2 = qOf "_law_in_order" := List.forall_mem_cons.mpr ⟨fun _ => rfl, List.forall_mem_cons.mpr ⟨fun e => absurd e tIP.symm, List.forall_mem_cons.mpr ⟨fun e => absurd e tIL.symm, fun _ z => absurd z List.not_mem_nil⟩⟩⟩
  have hmP : (tP, qOf "_law_spoilt_right") ∈ ([(tI, qOf "_law_in_order"), (tP, qOf "_law_spoilt_right"), (tL, qOf "law")] : List (Addr × Str)) := (List.mem_cons_of_mem _ (List.mem_cons_self ..))
  have huP : ∀ x ∈ ([(tI, qOf "_law_in_order"), (tP, qOf "_law_spoilt_right"), (tL, qOf "law")] : List (Addr × Str)), x.1 = tP → x.2 = qOf "_law_spoilt_right" := List.forall_mem_cons.mpr ⟨fun e => absurd e tIP, List.forall_mem_cons.mpr ⟨fun _ => rfl, List.forall_mem_cons.mpr ⟨fun e => absurd e tPL.symm, fun _ z => absurd z List.not_mem_nil⟩⟩⟩
  have hmL : (tL, qOf "law") ∈ ([(tI, qOf "_law_in_order"), (tP, qOf "_law_spoilt_right"), (tL, qOf "law")] : List (Addr × Str)) := (List.mem_cons_of_mem _ (List.mem_cons_of_mem _ (List.mem_cons_self ..)))
  have huL : ∀ x ∈ ([(tI, qOf "_law_in_order"), (tP, qOf "_law_spoilt_right"), (tL, qOf "law")] : List (Addr × Str)), x.1 = tL → x.2 = qOf "law" := List.forall_mem_cons.mpr ⟨fun e => absurd e tIL, List.forall_mem_cons.mpr ⟨fun e => absurd e tPL, List.forall_mem_cons.mpr ⟨fun _ => rfl, fun _ z => absurd z List.not_mem_nil⟩⟩⟩
  refine ⟨(PySem.W.fnOf "law" "law" (defArgs s_law) (defBody s_law) (defScope s_law) .none kV_law dc_law pm_law an_law (.ref c_L) ct_law), [(c_I, tI), (c_P, tP), (c_L, tL)], spLaw K [(tI, qOf "_law_in_order"), (tP, qOf "_law_spoilt_right"), (tL, qOf "law")], ?_, ?_, ?_, ?_, ?_, ?_⟩
  · exact List.forall_mem_cons.mpr ⟨tbI, List.forall_mem_cons.mpr ⟨tbP, List.forall_mem_cons.mpr ⟨tbL, fun _ z => absurd z List.not_mem_nil⟩⟩⟩
  · exact List.forall_mem_cons.mpr ⟨ntI, List.forall_mem_cons.mpr ⟨ntP, List.forall_mem_cons.mpr ⟨ntL, fun _ z => absurd z List.not_mem_nil⟩⟩⟩
  · exact List.forall_mem_cons.mpr ⟨PySem.W.codeHd_of_K X hdI, List.forall_mem_cons.mpr ⟨PySem.W.codeHd_of_K X hdP, List.forall_mem_cons.mpr ⟨PySem.W.codeHd_of_K X hdL, fun _ z => absurd z List.not_mem_nil⟩⟩⟩
  · exact fun s v => .of_eq rfl
  · exact fun H a ns hl hbt hH hS => ⟨a, ns, rfl, hS, hl, by
      exact List.forall_mem_cons.mpr ⟨TabS.nil (hH (c_I, tI) (List.mem_cons_self ..)), List.forall_mem_cons.mpr ⟨TabS.nil (hH (c_P, tP) (List.mem_cons_of_mem _ (List.mem_cons_self ..))), List.forall_mem_cons.mpr ⟨TabS.nil (hH (c_L, tL) (List.mem_cons_of_mem _ (List.mem_cons_of_mem _ (List.mem_cons_self ..)))), fun _ z => absurd z List.not_mem_nil⟩⟩⟩
    , fun _ => rfl⟩
  · exact fun base _ _ hB => law_ok (TT := [(tI, qOf "_law_in_order"), (tP, qOf "_law_spoilt_right"), (tL, qOf "law")]) TC TG TA Z TR MK MX ME TN6 TN T2 TN3 TN4 TN5 TH TL TX TY RK kAA zC FC_l_in_order (hB _ (List.mem_cons_self ..)) hmI huI FC_l_spoilt_right (hB _ (List.mem_cons_of_mem _ (List.mem_cons_self ..))) hmP huP FC_law (hB _ (List.mem_cons_of_mem _ (List.mem_cons_of_mem _ (List.mem_cons_self ..)))) hmL huL
end K18

set_option Elab.async false
set_option linter.all false
set_option maxRecDepth 100000
set_option maxHeartbeats 4000000
open PySem PySem.W PyProof.Rows
set_option maxRecDepth 100000 in
set_option maxHeartbeats 0 in
theorem PySem.Challenge.cw_allinputs_k18_texts_of_areas_holds : PySem.Challenge.rw_allinputs_k18_texts_of_areas.Holds := by
  w_on; o_law; k_head; (case hw => w_witness2)
  k_fill
  refine LamX.walk_ofTsE (l := PySem.Challenge.rw_allinputs_k18_texts_of_areas) (n := 63) (k := 18) (x := "_law_script") (CX := fun _ => fun _ _ _ _ _ _ => False) rfl (by decide) rfl ⟨rfl, by decide, by decide⟩ ?F (fun _ _ _ _ _ z => z)
  case F =>
    intro w mg fa h Y G hmg
    have KX := PySem.W.km_in_of Y
    refine ⟨_, KX, ?_⟩
    refine' K18.all_mk 565 635 642 KX G hmg ?a_S ?a_B ?L_B ?hg_B ?hk_B ?no0_B ?i_B ?kC_B ?sa_B ?ty_B ?l_iB ?c_iB ?k_iB ?a_N ?L_N ?hg_N ?hk_N ?no0_N ?i_N ?kC_N ?sa_N ?ty_N ?l_iN ?c_iN ?k_iN ?a_M ?L_M ?hg_M ?hk_M ?no0_M ?i_M ?kC_M ?sa_M ?ty_M ?l_iM ?c_iM ?k_iM ?a_O ?L_O ?hg_O ?hk_O ?no0_O ?no1_O ?i_O ?kC_O ?sa_O ?ty_O ?l_iO ?c_iO ?k_iO ?nBN ?nMB ?nMN ?nMO ?nNB ?nBS ?nNS ?nMS ?nOS ?hn ?ht ?a_A ?L_A ?pg_A ?hd2_A ?po_A ?sa_A ?nA_A_row ?nA_A_column ?nA_A_fixed_row ?nA_A_fixed_column ?nA_A_sheet ?mk_A ?i_A ?if_A ?kC_A ?ha_A ?hm_A ?ok_A ?l_iA ?c_iA ?k_iA ?d_A_fixed_row ?d_A_fixed_column ?d_A_sheet ?tyT_A ?f_A___eq__ ?if_A___eq__ ?l_A___eq__ ?c_A___eq__ ?k_A___eq__ ?eq_A ?ne_A ?y1_A_str ?a_R ?L_R ?pg_R ?hd2_R ?po_R ?sa_R ?nA_R_first ?nA_R_last ?nA_R_whole ?nA_R_sheet ?nA_R_height ?nA_R_width ?mk_R ?i_R ?if_R ?kC_R ?ha_R ?hm_R ?ok_R ?l_iR ?c_iR ?k_iR ?d_R_whole ?tyT_R ?f_R___eq__ ?if_R___eq__ ?l_R___eq__ ?c_R___eq__ ?k_R___eq__ ?f_R_has ?if_R_has ?l_R_has ?c_R_has ?k_R_has ?f_R_common ?if_R_common ?l_R_common ?c_R_common ?k_R_common ?f_R_without ?if_R_without ?l_R_without ?c_R_without ?k_R_without ?f_R_cells ?if_R_cells ?l_R_cells ?c_R_cells ?k_R_cells ?f_R__part ?if_R__part ?l_R__part ?c_R__part ?k_R__part ?eq_R ?ne_R ?y1_R_NoneType ?y1_R_int ?y1_R_bool ?y1_R_list ?y1_R_tuple ?a_COL ?a_ROWS ?a_MOST ?a_LET ?a_SORTS ?l_SORTS ?z_list ?z_int ?z_len ?z_range ?z_min ?z_max ?z_sorted ?z_isinstance ?z_tuple ?z_bool ?z_str ?z_divmod ?a_is_integer ?l_is_integer ?c_is_integer ?k_is_integer ?a_check_range ?l_check_range ?c_check_range ?k_check_range ?a_check_string ?l_check_string ?c_check_string ?k_check_string ?a_check_integer ?l_check_integer ?c_check_integer ?k_check_integer ?a_check_truth ?l_check_truth ?c_check_truth ?k_check_truth ?a_is_on_grid ?l_is_on_grid ?c_is_on_grid ?k_is_on_grid ?a_is_sheet_name ?l_is_sheet_name ?c_is_sheet_name ?k_is_sheet_name ?a_small_letters ?l_small_letters ?c_small_letters ?k_small_letters ?a_alike_sheets ?l_alike_sheets ?c_alike_sheets ?k_alike_sheets ?a_letters_of ?l_letters_of ?c_letters_of ?k_letters_of ?a_column_of ?l_column_of ?c_column_of ?k_column_of ?a_is_letters ?l_is_letters ?c_is_letters ?k_is_letters ?a_is_column_text ?l_is_column_text ?c_is_column_text ?k_is_column_text ?a_is_row_text ?l_is_row_text ?c_is_row_text ?k_is_row_text ?a_split_cell ?l_split_cell ?c_split_cell ?k_split_cell ?a_check_address ?l_check_address ?c_check_address ?k_check_address ?a_check_area ?l_check_area ?c_check_area ?k_check_area ?a_may_meet ?l_may_meet ?c_may_meet ?k_may_meet ?a__ordered ?l__ordered ?c__ordered ?k__ordered ?a_marked_address ?l_marked_address ?c_marked_address ?k_marked_address ?a_area_between ?l_area_between ?c_area_between ?k_area_between ?a_address_text ?l_address_text ?c_address_text ?k_address_text ?a_read_address ?l_read_address ?c_read_address ?k_read_address ?a_corner_text ?l_corner_text ?c_corner_text ?k_corner_text ?a_corners_text ?l_corners_text ?c_corners_text ?k_corners_text ?a_area_text ?l_area_text ?c_area_text ?k_area_text ?a_read_area ?l_read_area ?c_read_area ?k_read_area ?a__read_corner ?l__read_corner ?c__read_corner ?k__read_corner ?a_l_pen ?l_l_pen ?c_l_pen ?k_l_pen ?a_l_draw ?l_l_draw ?c_l_draw ?k_l_draw ?a_l_pick ?l_l_pick ?c_l_pick ?k_l_pick ?a_l_signs ?l_l_signs ?c_l_signs ?k_l_signs ?a_l_letters ?l_l_letters ?c_l_letters ?k_l_letters ?a_l_column ?l_l_column ?c_l_column ?k_l_column ?a_l_is_letters ?l_l_is_letters ?c_l_is_letters ?k_l_is_letters ?a_l_is_digits ?l_l_is_digits ?c_l_is_digits ?k_l_is_digits ?a_l_mixed_case ?l_l_mixed_case ?c_l_mixed_case ?k_l_mixed_case ?a_l_is_sheet ?l_l_is_sheet ?c_l_is_sheet ?k_l_is_sheet ?a_l_sheet_name ?l_l_sheet_name ?c_l_sheet_name ?k_l_sheet_name ?a_l_told ?l_l_told ?c_l_told ?k_l_told ?a_l_spoilt ?l_l_spoilt ?c_l_spoilt ?k_l_spoilt ?a_l_made ?l_l_made ?c_l_made ?k_l_made ?a_l_row_text ?l_l_row_text ?c_l_row_text ?k_l_row_text ?a_l_column_text ?l_l_column_text ?c_l_column_text ?k_l_column_text ?a_l_sheet_text ?l_l_sheet_text ?c_l_sheet_text ?k_l_sheet_text ?a_l_is ?l_l_is ?c_l_is ?k_l_is ?a_l_read_row ?l_l_read_row ?c_l_read_row ?k_l_read_row ?a_l_read_column ?l_l_read_column ?c_l_read_column ?k_l_read_column ?a_l_read_cell ?l_l_read_cell ?c_l_read_cell ?k_l_read_cell ?a_l_parted ?l_l_parted ?c_l_parted ?k_l_parted ?a_l_corners ?l_l_corners ?c_l_corners ?k_l_corners ?a_l_in_order ?l_l_in_order ?c_l_in_order ?k_l_in_order ?a_l_area ?l_l_area ?c_l_area ?k_l_area ?a_l_normal ?l_l_normal ?c_l_normal ?k_l_normal ?a_l_corner ?l_l_corner ?c_l_corner ?k_l_corner ?a_l_area_made ?l_l_area_made ?c_l_area_made ?k_l_area_made ?a_l_is_area ?l_l_is_area ?c_l_is_area ?k_l_is_area ?a_l_corner_text ?l_l_corner_text ?c_l_corner_text ?k_l_corner_text ?a_l_area_text ?l_l_area_text ?c_l_area_text ?k_l_area_text ?a_l_area_read ?l_l_area_read ?c_l_area_read ?k_l_area_read ?a_l_text_right ?l_l_text_right ?c_l_text_right ?k_l_text_right ?a_l_spoilt_right ?l_l_spoilt_right ?c_l_spoilt_right ?k_l_spoilt_right ?a_law ?l_law ?c_law ?k_law ?tIP ?tIL ?tPL ?hdI ?hdP ?hdL ?ntI ?ntP ?ntL ?tbI ?tbP ?tbL ?nRA
    (case a_S => k_is)
    (case a_B => k_is)
    (case L_B => k_is)
    (case hg_B => k_is)
    (case hk_B => k_is)
    (case no0_B => k_is)
    (case i_B => k_is)
    (case kC_B => k_is)
    (case sa_B => k_is)
    (case ty_B => k_is)
    (case l_iB => k_is)
    (case c_iB => k_is)
    (case k_iB => k_is)
    (case a_N => k_is)
    (case L_N => k_is)
    (case hg_N => k_is)
    (case hk_N => k_is)
    (case no0_N => k_is)
    (case i_N => k_is)
    (case kC_N => k_is)
    (case sa_N => k_is)
    (case ty_N => k_is)
    (case l_iN => k_is)
    (case c_iN => k_is)
    (case k_iN => k_is)
    (case a_M => k_is)
    (case L_M => k_is)
    (case hg_M => k_is)
    (case hk_M => k_is)
    (case no0_M => k_is)
    (case i_M => k_is)
    (case kC_M => k_is)
    (case sa_M => k_is)
    (case ty_M => k_is)
    (case l_iM => k_is)
    (case c_iM => k_is)
    (case k_iM => k_is)
    (case a_O => k_is)
    (case L_O => k_is)
    (case hg_O => k_is)
    (case hk_O => k_is)
    (case no0_O => k_is)
    (case no1_O => k_is)
    (case i_O => k_is)
    (case kC_O => k_is)
    (case sa_O => k_is)
    (case ty_O => k_is)
    (case l_iO => k_is)
    (case c_iO => k_is)
    (case k_iO => k_is)
    (case nBN => decide)
    (case nMB => decide)
    (case nMN => decide)
    (case nMO => decide)
    (case nNB => decide)
    (case nBS => decide)
    (case nNS => decide)
    (case nMS => decide)
    (case nOS => decide)
    (case hn => k_is)
    (case ht => k_is)
    (case a_A => k_is)
    (case L_A => k_is)
    (case pg_A => k_is)
    (case hd2_A => k_is)
    (case po_A => k_is)
    (case sa_A => k_is)
    (case nA_A_row => k_is)
    (case nA_A_column => k_is)
    (case nA_A_fixed_row => k_is)
    (case nA_A_fixed_column => k_is)
    (case nA_A_sheet => k_is)
    (case mk_A => k_is)
    (case i_A => k_is)
    (case if_A => k_is)
    (case kC_A => k_is)
    (case ha_A => k_is)
    (case hm_A => k_is)
    (case ok_A => kernel_rfl)
    (case l_iA => k_is)
    (case c_iA => k_is)
    (case k_iA => k_is)
    (case d_A_fixed_row => k_is)
    (case d_A_fixed_column => k_is)
    (case d_A_sheet => k_is)
    (case tyT_A => k_is)
    (case f_A___eq__ => k_is)
    (case if_A___eq__ => k_is)
    (case l_A___eq__ => k_is)
    (case c_A___eq__ => k_is)
    (case k_A___eq__ => k_is)
    (case eq_A => k_is)
    (case ne_A => k_is)
    (case y1_A_str => k_is)
    (case a_R => k_is)
    (case L_R => k_is)
    (case pg_R => k_is)
    (case hd2_R => k_is)
    (case po_R => k_is)
    (case sa_R => k_is)
    (case nA_R_first => k_is)
    (case nA_R_last => k_is)
    (case nA_R_whole => k_is)
    (case nA_R_sheet => k_is)
    (case nA_R_height => k_is)
    (case nA_R_width => k_is)
    (case mk_R => k_is)
    (case i_R => k_is)
    (case if_R => k_is)
    (case kC_R => k_is)
    (case ha_R => k_is)
    (case hm_R => k_is)
    (case ok_R => kernel_rfl)
    (case l_iR => k_is)
    (case c_iR => k_is)
    (case k_iR => k_is)
    (case d_R_whole => k_is)
    (case tyT_R => k_is)
    (case f_R___eq__ => k_is)
    (case if_R___eq__ => k_is)
    (case l_R___eq__ => k_is)
    (case c_R___eq__ => k_is)
    (case k_R___eq__ => k_is)
    (case f_R_has => k_is)
    (case if_R_has => k_is)
    (case l_R_has => k_is)
    (case c_R_has => k_is)
    (case k_R_has => k_is)
    (case f_R_common => k_is)
    (case if_R_common => k_is)
    (case l_R_common => k_is)
    (case c_R_common => k_is)
    (case k_R_common => k_is)
    (case f_R_without => k_is)
    (case if_R_without => k_is)
    (case l_R_without => k_is)
    (case c_R_without => k_is)
    (case k_R_without => k_is)
    (case f_R_cells => k_is)
    (case if_R_cells => k_is)
    (case l_R_cells => k_is)
    (case c_R_cells => k_is)
    (case k_R_cells => k_is)
    (case f_R__part => k_is)
    (case if_R__part => k_is)
    (case l_R__part => k_is)
    (case c_R__part => k_is)
    (case k_R__part => k_is)
    (case eq_R => k_is)
    (case ne_R => k_is)
    (case y1_R_NoneType => k_is)
    (case y1_R_int => k_is)
    (case y1_R_bool => k_is)
    (case y1_R_list => k_is)
    (case y1_R_tuple => k_is)
    (case a_COL => k_is)
    (case a_ROWS => k_is)
    (case a_MOST => k_is)
    (case a_LET => k_is)
    (case a_SORTS => k_is)
    (case l_SORTS => k_is)
    (case z_list => k_is)
    (case z_int => k_is)
    (case z_len => k_is)
    (case z_range => k_is)
    (case z_min => k_is)
    (case z_max => k_is)
    (case z_sorted => k_is)
    (case z_isinstance => k_is)
    (case z_tuple => k_is)
    (case z_bool => k_is)
    (case z_str => k_is)
    (case z_divmod => k_is)
    (case a_is_integer => k_is)
    (case l_is_integer => k_is)
    (case c_is_integer => k_is)
    (case k_is_integer => k_is)
    (case a_check_range => k_is)
    (case l_check_range => k_is)
    (case c_check_range => k_is)
    (case k_check_range => k_is)
    (case a_check_string => k_is)
    (case l_check_string => k_is)
    (case c_check_string => k_is)
    (case k_check_string => k_is)
    (case a_check_integer => k_is)
    (case l_check_integer => k_is)
    (case c_check_integer => k_is)
    (case k_check_integer => k_is)
    (case a_check_truth => k_is)
    (case l_check_truth => k_is)
    (case c_check_truth => k_is)
    (case k_check_truth => k_is)
    (case a_is_on_grid => k_is)
    (case l_is_on_grid => k_is)
    (case c_is_on_grid => k_is)
    (case k_is_on_grid => k_is)
    (case a_is_sheet_name => k_is)
    (case l_is_sheet_name => k_is)
    (case c_is_sheet_name => k_is)
    (case k_is_sheet_name => k_is)
    (case a_small_letters => k_is)
    (case l_small_letters => k_is)
    (case c_small_letters => k_is)
    (case k_small_letters => k_is)
    (case a_alike_sheets => k_is)
    (case l_alike_sheets => k_is)
    (case c_alike_sheets => k_is)
    (case k_alike_sheets => k_is)
    (case a_letters_of => k_is)
    (case l_letters_of => k_is)
    (case c_letters_of => k_is)
    (case k_letters_of => k_is)
    (case a_column_of => k_is)
    (case l_column_of => k_is)
    (case c_column_of => k_is)
    (case k_column_of => k_is)
    (case a_is_letters => k_is)
    (case l_is_letters => k_is)
    (case c_is_letters => k_is)
    (case k_is_letters => k_is)
    (case a_is_column_text => k_is)
    (case l_is_column_text => k_is)
    (case c_is_column_text => k_is)
    (case k_is_column_text => k_is)
    (case a_is_row_text => k_is)
    (case l_is_row_text => k_is)
    (case c_is_row_text => k_is)
    (case k_is_row_text => k_is)
    (case a_split_cell => k_is)
    (case l_split_cell => k_is)
    (case c_split_cell => k_is)
    (case k_split_cell => k_is)
    (case a_check_address => k_is)
    (case l_check_address => k_is)
    (case c_check_address => k_is)
    (case k_check_address => k_is)
    (case a_check_area => k_is)
    (case l_check_area => k_is)
    (case c_check_area => k_is)
    (case k_check_area => k_is)
    (case a_may_meet => k_is)
    (case l_may_meet => k_is)
    (case c_may_meet => k_is)
    (case k_may_meet => k_is)
    (case a__ordered => k_is)
    (case l__ordered => k_is)
    (case c__ordered => k_is)
    (case k__ordered => k_is)
    (case a_marked_address => k_is)
    (case l_marked_address => k_is)
    (case c_marked_address => k_is)
    (case k_marked_address => k_is)
    (case a_area_between => k_is)
    (case l_area_between => k_is)
    (case c_area_between => k_is)
    (case k_area_between => k_is)
    (case a_address_text => k_is)
    (case l_address_text => k_is)
    (case c_address_text => k_is)
    (case k_address_text => k_is)
    (case a_read_address => k_is)
    (case l_read_address => k_is)
    (case c_read_address => k_is)
    (case k_read_address => k_is)
    (case a_corner_text => k_is)
    (case l_corner_text => k_is)
    (case c_corner_text => k_is)
    (case k_corner_text => k_is)
    (case a_corners_text => k_is)
    (case l_corners_text => k_is)
    (case c_corners_text => k_is)
    (case k_corners_text => k_is)
    (case a_area_text => k_is)
    (case l_area_text => k_is)
    (case c_area_text => k_is)
    (case k_area_text => k_is)
    (case a_read_area => k_is)
    (case l_read_area => k_is)
    (case c_read_area => k_is)
    (case k_read_area => k_is)
    (case a__read_corner => k_is)
    (case l__read_corner => k_is)
    (case c__read_corner => k_is)
    (case k__read_corner => k_is)
    (case a_l_pen => k_is)
    (case l_l_pen => k_is)
    (case c_l_pen => k_is)
    (case k_l_pen => k_is)
    (case a_l_draw => k_is)
    (case l_l_draw => k_is)
    (case c_l_draw => k_is)
    (case k_l_draw => k_is)
    (case a_l_pick => k_is)
    (case l_l_pick => k_is)
    (case c_l_pick => k_is)
    (case k_l_pick => k_is)
    (case a_l_signs => k_is)
    (case l_l_signs => k_is)
    (case c_l_signs => k_is)
    (case k_l_signs => k_is)
    (case a_l_letters => k_is)
    (case l_l_letters => k_is)
    (case c_l_letters => k_is)
    (case k_l_letters => k_is)
    (case a_l_column => k_is)
    (case l_l_column => k_is)
    (case c_l_column => k_is)
    (case k_l_column => k_is)
    (case a_l_is_letters => k_is)
    (case l_l_is_letters => k_is)
    (case c_l_is_letters => k_is)
    (case k_l_is_letters => k_is)
    (case a_l_is_digits => k_is)
    (case l_l_is_digits => k_is)
    (case c_l_is_digits => k_is)
    (case k_l_is_digits => k_is)
    (case a_l_mixed_case => k_is)
    (case l_l_mixed_case => k_is)
    (case c_l_mixed_case => k_is)
    (case k_l_mixed_case => k_is)
    (case a_l_is_sheet => k_is)
    (case l_l_is_sheet => k_is)
    (case c_l_is_sheet => k_is)
    (case k_l_is_sheet => k_is)
    (case a_l_sheet_name => k_is)
    (case l_l_sheet_name => k_is)
    (case c_l_sheet_name => k_is)
    (case k_l_sheet_name => k_is)
    (case a_l_told => k_is)
    (case l_l_told => k_is)
    (case c_l_told => k_is)
    (case k_l_told => k_is)
    (case a_l_spoilt => k_is)
    (case l_l_spoilt => k_is)
    (case c_l_spoilt => k_is)
    (case k_l_spoilt => k_is)
    (case a_l_made => k_is)
    (case l_l_made => k_is)
    (case c_l_made => k_is)
    (case k_l_made => k_is)
    (case a_l_row_text => k_is)
    (case l_l_row_text => k_is)
    (case c_l_row_text => k_is)
    (case k_l_row_text => k_is)
    (case a_l_column_text => k_is)
    (case l_l_column_text => k_is)
    (case c_l_column_text => k_is)
    (case k_l_column_text => k_is)
    (case a_l_sheet_text => k_is)
    (case l_l_sheet_text => k_is)
    (case c_l_sheet_text => k_is)
    (case k_l_sheet_text => k_is)
    (case a_l_is => k_is)
    (case l_l_is => k_is)
    (case c_l_is => k_is)
    (case k_l_is => k_is)
    (case a_l_read_row => k_is)
    (case l_l_read_row => k_is)
    (case c_l_read_row => k_is)
    (case k_l_read_row => k_is)
    (case a_l_read_column => k_is)
    (case l_l_read_column => k_is)
    (case c_l_read_column => k_is)
    (case k_l_read_column => k_is)
    (case a_l_read_cell => k_is)
    (case l_l_read_cell => k_is)
    (case c_l_read_cell => k_is)
    (case k_l_read_cell => k_is)
    (case a_l_parted => k_is)
    (case l_l_parted => k_is)
    (case c_l_parted => k_is)
    (case k_l_parted => k_is)
    (case a_l_corners => k_is)
    (case l_l_corners => k_is)
    (case c_l_corners => k_is)
    (case k_l_corners => k_is)
    (case a_l_in_order => k_is)
    (case l_l_in_order => k_is)
    (case c_l_in_order => k_is)
    (case k_l_in_order => k_is)
    (case a_l_area => k_is)
    (case l_l_area => k_is)
    (case c_l_area => k_is)
    (case k_l_area => k_is)
    (case a_l_normal => k_is)
    (case l_l_normal => k_is)
    (case c_l_normal => k_is)
    (case k_l_normal => k_is)
    (case a_l_corner => k_is)
    (case l_l_corner => k_is)
    (case c_l_corner => k_is)
    (case k_l_corner => k_is)
    (case a_l_area_made => k_is)
    (case l_l_area_made => k_is)
    (case c_l_area_made => k_is)
    (case k_l_area_made => k_is)
    (case a_l_is_area => k_is)
    (case l_l_is_area => k_is)
    (case c_l_is_area => k_is)
    (case k_l_is_area => k_is)
    (case a_l_corner_text => k_is)
    (case l_l_corner_text => k_is)
    (case c_l_corner_text => k_is)
    (case k_l_corner_text => k_is)
    (case a_l_area_text => k_is)
    (case l_l_area_text => k_is)
    (case c_l_area_text => k_is)
    (case k_l_area_text => k_is)
    (case a_l_area_read => k_is)
    (case l_l_area_read => k_is)
    (case c_l_area_read => k_is)
    (case k_l_area_read => k_is)
    (case a_l_text_right => k_is)
    (case l_l_text_right => k_is)
    (case c_l_text_right => k_is)
    (case k_l_text_right => k_is)
    (case a_l_spoilt_right => k_is)
    (case l_l_spoilt_right => k_is)
    (case c_l_spoilt_right => k_is)
    (case k_l_spoilt_right => k_is)
    (case a_law => k_is)
    (case l_law => k_is)
    (case c_law => k_is)
    (case k_law => k_is)
    (case tIP => decide)
    (case tIL => decide)
    (case tPL => decide)
    (case hdI => kernel_rfl)
    (case hdP => kernel_rfl)
    (case hdL => kernel_rfl)
    (case ntI => first | rfl | kernel_rfl | k_is)
    (case ntP => first | rfl | kernel_rfl | k_is)
    (case ntL => first | rfl | kernel_rfl | k_is)
    (case tbI => exact PySem.W.km_tabs_of Y _ (by simp))
    (case tbP => exact PySem.W.km_tabs_of Y _ (by simp))
    (case tbL => exact PySem.W.km_tabs_of Y _ (by simp))
    (case nRA => decide)

