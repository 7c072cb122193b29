import PyProof.Rows.All
import Wide.All
import OpenK.AllK
import Wide.FinOn
import HandS.ForExc
import HandS.HotCalls
import HandS.ExcInit
import HandS.ExcIs
import HandS.ExcField
import KE.KIsAll
import PyProof.Rows.CountFlat
import HandS.CallSlots
import HandS.Comp
import HandS.Iter
import HandS.Walk
import HandS.Strs
import HandS.IsInst
import PySem.Challenge.RW_runsdown_k00_error_classes
set_option Elab.async false
set_option linter.all false
set_option maxRecDepth 100000
set_option maxHeartbeats 4000000
/-! An own error class over ValueError, called with positional values and keywords: the model's own steps. -/
namespace MXa
open PySem PySem.W PySem.Calls PyProof.Rows PySem.HandSPX
open Builtin Builtin.ObjectAttr
section
variable {M : Model} {prog : Program} {w : World} {A : Around} {E : Value → Shared → Prop} {R : Result → Shared → Prop} {h : Heap} {g : Array GenState} {d : Drawn} {t : Nat} {os : OsState}
variable {nm q : Str} {C N : Addr} {bs bm bmB : List Value} {hdct : Bool} {sn : List Str} {sub : List Value} {ab : Bool} {col : Option Bool} {dd : Option Addr} {k0 k1 k2 k3 k5 : Option Value} {B newId initId : String}

theorem newCheck (F : ExcBaseFacts B newId initId bmB) (hT : ∀ X : String, bm.contains (.type X) = bmB.contains (.type X)) {ps : List Value} {kw : List (Str × Value)} {Q : Unit → Shared → Prop}
    (cl : h.get? C = some (excClassObj nm q C N bs bm hdct sn sub ab col dd k0 k1 k2 k3 k5 newId)) (go : Q () ⟨h, g, d, t, os⟩) : wpAny M A (checkBuiltinCall newId ⟨.ref C :: ps, kw⟩) Q E ⟨h, g, d, t, os⟩ := by
  have has : (Value.ref C :: bm).contains (.type B) = true := by
    rw [List.contains_cons, hT, F.hasB, Bool.or_true]
  have star := F.noStar
  simp only [checkBuiltinCall, F.newKind, F.newSplit, F.newRow]
  repeat (first
    | refine wpAny_loadPart_at cl ?_
    | (refine wpAny_isSubtype_exc cl ?_; rw [has])
    | refine wpAny_staticBase_exc cl ?_
    | refine wpAny_madeBy_exc cl ?_
    | simp only [bne_self_eq_false, Bool.false_eq_true, if_false]
    | wp_step)
  all_goals first | exact go | trace_state

theorem newBody (F : ExcBaseFacts B newId initId bmB) (hT : ∀ X : String, bm.contains (.type X) = bmB.contains (.type X)) {ps : List Value} {kw : List (Str × Value)}
    (cl : h.get? C = some (excClassObj nm q C N bs bm hdct sn sub ab col dd k0 k1 k2 k3 k5 newId)) (short : ps.length ≤ sizeLine)
    (go : R (.ok (.ret (.ref (h.objs.size + 1)))) ⟨(h.push (W.kdv_tup ps)).push (excO C h.objs.size), g, d, t, os⟩) :
    codeAny (model prog w) A (.builtin newId ⟨.ref C :: ps, kw⟩) R ⟨h, g, d, t, os⟩ := by
  have es := F.ends
  have yB : (Value.ref C :: bm).contains (.type B) = true := by
    rw [List.contains_cons, hT, F.hasB, Bool.or_true]
  have nA : (Value.ref C :: bm).contains (.type "AttributeError") = false := by
    rw [List.contains_cons, hT, F.noAttr]
    rfl
  have nN : (Value.ref C :: bm).contains (.type "NameError") = false := by
    rw [List.contains_cons, hT, F.noName]
    rfl
  refine codeAny_builtinAt F.entry ?_
  unfold Builtin.«BaseException.__new__»
  refine PySem.wpAt_bind ?_
  show PySem.wpAt _ _ _ (stack >>= _) _ _ _
  refine PySem.wpAt_bind (PySem.wpAt_stack fun z zs => PySem.wpAt_of_wpAny ?_)
  wp_walk
  refine PySem.wpAt_of_wpAny ?_
  rw [F.owner]
  repeat (first
    | with_reducible refine wpAny_madeHere_exc F.canon cl ?_
    | with_reducible refine wpAny_loadPart_at cl ?_
    | (with_reducible refine wpAny_isSubtype_exc cl ?_; first | rw [yB] | rw [nA] | rw [nN])
    | wp_step)
  show R _ _
  rw [Heap.size_push]
  exact go

theorem typeCall (F : ExcBaseFacts B newId initId bmB) (hT : ∀ X : String, bm.contains (.type X) = bmB.contains (.type X)) {ps : List Value} {kw : List (Str × Value)} {fI : Addr} {Q : Fin → Shared → Prop}
    (cl : h.get? C = some (excClassObj nm q C N bs bm hdct sn sub ab col dd k0 k1 k2 k3 k5 newId)) (short : ps.length ≤ sizeLine)
    (fi : W.Looks (model prog w) h (typeLookup (.ref C) "__init__") (some (.ref fI))) (bi : ∀ self, W.Looks (model prog w) h (bindSpecial (.ref fI) self) (.ref fI, [self]))
    (go : codeAny (model prog w) A (.call (.ref fI) ⟨.ref (h.objs.size + 1) :: ps, kw⟩)
      (fun r s' => match r with | .ok (.ret v) => v = .none ∧ Q (.done (.ret (.ref (h.objs.size + 1)))) s' | .ok _ => False | .error e => E e s')
      ⟨(h.push (W.kdv_tup ps)).push (excO C h.objs.size), g, d, t, os⟩) :
    wpAny (model prog w) A (Builtin.«type.__call__» ⟨.ref C :: ps, kw⟩) Q E ⟨h, g, d, t, os⟩ := by
  repeat (first
    | with_reducible refine wpAny_loadPart_at cl ?_
    | with_reducible refine wpAny_madeBy_exc cl ?_
    | wp_step)
  refine codeAny_call_builtin_code (Code.quiet_builtin _ F.quiet) (newCheck F hT cl ?_)
  refine newBody F hT cl short ?_
  show wpAny _ _ _ _ _ _
  have up : ∀ b o, h.get? b = some o → ((h.push (W.kdv_tup ps)).push (excO C h.objs.size)).get? b = some o := fun b o e =>
    Heap.get?_push_of_some _ (Heap.get?_push_of_some _ e)
  have cl1 := up _ _ cl
  have at1 : ((h.push (W.kdv_tup ps)).push (excO C h.objs.size)).get? (h.objs.size + 1) = some (excO C h.objs.size) := by
    heap_get
  have yC : (Value.ref C :: bm).contains (.ref C) = true := by simp
  have fi1 := fi.keeps up
  have bi1 := (bi (.ref (h.objs.size + 1))).keeps up
  unfold isInstance
  repeat (first
    | with_reducible refine wpAny_loadPart_at at1 ?_
    | (with_reducible refine wpAny_isSubtype_exc cl1 ?_; rw [yC])
    | wp_step)
  show wpAny _ _ (typeLookup (.ref C) _) _ _ _
  refine fi1.at (wpAny_holding (wpAny_bind (bi1.at (wpAny_bind (wpAny_call (codeAny_mono go fun r s' z => ?_))))))
  rcases r with e | (v | _ | _ | _) <;> first | exact z | exact z.elim | skip
  obtain ⟨rfl, z⟩ := z
  first
    | exact wpAny_pure (wpAny_pure z)
    | (wp_walk; exact z)

theorem typeCallCheck {ps : List Value} {kw : List (Str × Value)} {Q : Unit → Shared → Prop} (cl : h.get? C = some (excClassObj nm q C N bs bm hdct sn sub ab col dd k0 k1 k2 k3 k5 newId))
    (go : Q () ⟨h, g, d, t, os⟩) : wpAny M A (checkBuiltinCall "type.__call__" ⟨.ref C :: ps, kw⟩) Q E ⟨h, g, d, t, os⟩ := by
  have f3 := tc_sub
  have ty : (⟨h, g, d, t, os⟩ : Shared).TypeIs (.ref C) "type" := ⟨_, cl, rfl⟩
  simp only [checkBuiltinCall, tc_kind, tc_split]
  repeat (any_goals (first
    | assumption
    | with_reducible refine wpAny_loadPart_at cl ?_
    | with_reducible refine wpAny_onRaise ?_
    | with_reducible refine wpAny_map ?_
    | wp_step))
  all_goals trace_state

theorem callOwn (F : ExcBaseFacts B newId initId bmB) (hT : ∀ X : String, bm.contains (.type X) = bmB.contains (.type X)) {ps : List Value} {kw : List (Str × Value)} {fI : Addr}
    (cl : h.get? C = some (excClassObj nm q C N bs bm hdct sn sub ab col dd k0 k1 k2 k3 k5 newId)) (short : ps.length ≤ sizeLine)
    (fi : W.Looks (model prog w) h (typeLookup (.ref C) "__init__") (some (.ref fI))) (bi : ∀ self, W.Looks (model prog w) h (bindSpecial (.ref fI) self) (.ref fI, [self]))
    (go : codeAny (model prog w) (A.under (.builtin "type.__call__" ⟨.ref C :: ps, kw⟩)) (.call (.ref fI) ⟨.ref (h.objs.size + 1) :: ps, kw⟩) (W.InitBack (h.objs.size + 1) R)
      ⟨(h.push (W.kdv_tup ps)).push (excO C h.objs.size), g, d, t, os⟩) :
    codeAny (model prog w) A (.call (.ref C) ⟨ps, kw⟩) R ⟨h, g, d, t, os⟩ := by
  have f1 := tc_lookup
  have f2 := tc_bind (.ref C)
  have ty : (⟨h, g, d, t, os⟩ : Shared).TypeIs (.ref C) "type" := ⟨_, cl, rfl⟩
  refine codeAny_of_tree ?_
  show wpAny _ _ (callAny (.ref C) _) _ _ _
  repeat (any_goals (first
    | assumption
    | with_reducible refine wpAny_loadPart_at cl ?_
    | wp_step))
  refine ⟨rfl, ?_⟩
  refine codeAny_call_builtin_at (Code.quiet_builtin _ (by decide +kernel)) entry_typeCall (typeCallCheck cl (typeCall F hT cl short fi bi ?_))
  refine codeAny_mono go fun r s' z => ?_
  rcases r with e | (v | _ | _ | _) <;> exact z
end
end MXa
/-! Own error classes with one inherited __init__ that stores one field: made, raised, read, asked. -/
namespace MXb
open PySem PySem.Spec PyProof.Rows L2
abbrev St := L2.St
/-- what the written part says of an error class at C whose __init__ stands at fI and stores the field fl -/
structure XC (K : PySem.W.Frag) (mg : Str → Option Value) (fI C : Addr) (nm fl : Str) : Prop where
  gC : mg nm = some (.ref C)
  ox : OexC K C
  ini : PySem.W.findIn K (.ref C) "__init__" = some (some (.ref fI))
  tyI : PySem.W.typeIn K (.ref fI) = some (.type "function")
  noF : PySem.W.findIn K (.ref C) fl = some none
  xf : XfC K C
  ec : ExcC K C
/-- __init__(self, fl): self.fl = fl -/
def spInit (K : PySem.W.Frag) (fl : Str) : Sp := fun vs H Q _ => ∃ (e C : Addr) (y : V), vs = [.ref e, y] ∧ OexC K C ∧ PySem.W.findIn K (.ref C) fl = some none ∧ H e = some (exo e C none) ∧
  ∀ d, H d = none → d ≠ e → Q .non (upd (upd H d (exd d [(fl, y)])) e (exo e C (some d)))
/-- how the one value comes to __init__: positional (kw none), or by its name -/
structure Bind1 (K : PySem.W.Frag) (fd : FuncData) (fl : Str) : Prop where
  pos : ∀ (s : Shared) (a u : Value), K.In s.heap → BindsTo s fd ⟨[a, u], []⟩ ((["self", fl] : List Str).zip [a, u])
  kw : ∀ (s : Shared) (a u : Value), K.In s.heap → BindsTo s fd ⟨[a], [(fl, u)]⟩ ((["self", fl] : List Str).zip [a, u])
/-- the abstract heap behind C(y): the new error at a, its dict at d -/
def hMade (H : Hp) (a d C : Addr) (fl : Str) (y : V) : Hp := upd (upd (upd H a (exo a C none)) d (exd d [(fl, y)])) a (exo a C (some d))
section
variable {X : Cx} {fI C : Addr} {nm fl : Str} {k : Nat} {fd : FuncData}
theorem run_x {pins : List (Addr × Obj)} {σ : St} {H : Hp} {s : Shared} {y : V} {u : Value} {ps : List Value} {kw : List (Str × Value)} {R : Value → Shared → Prop} (T : XC X.K X.mg fI C nm fl)
    (F1 : FnOk X.prog X.w X.K X.mg X.base CX0 k fI fd ["self", fl] (spInit X.K fl)) (hr : Room (k + 1) X.A) (I : Inv X pins σ H s) (r : RelV y u) (short : ps.length ≤ sizeLine)
    (bi : ∀ (s : Shared) (a : Value), X.K.In s.heap → BindsTo s fd ⟨a :: ps, kw⟩ ((["self", fl] : List Str).zip [a, u]))
    (fin : ∀ (s2 : Shared) (d : Addr), H (s.heap.objs.size + 1) = none → H d = none → d ≠ s.heap.objs.size + 1 → s2.os = s.os → AllBare s2.gens →
      Inv X pins σ (hMade H (s.heap.objs.size + 1) d C fl y) s2 →
      Un (frs X.stack) [] (upd H (s.heap.objs.size + 1) (exo (s.heap.objs.size + 1) C none)) (hMade H (s.heap.objs.size + 1) d C fl y) ((s.heap.push (PySem.W.kdv_tup ps)).push (PySem.HandSPX.excO C s.heap.objs.size)) s2.heap →
      HOk X.prog X.w (hMade H (s.heap.objs.size + 1) d C fl y) s2.heap → R (.ref (s.heap.objs.size + 1)) s2) :
    wpAny (model X.prog X.w) X.A (call (.ref C) ps kw) R X.xe s := by
  obtain ⟨n0, q0, N0, bs0, bm, sn0, sub0, ab0, col0, dd0, k0, k1, k2, k3, k5, hC, hbm⟩ := T.ox.cls
  obtain ⟨hp, g, dr, tk, os⟩ := s
  have above : hp.objs.size ≤ hp.objs.size + 1 := Nat.le_succ _
  have free : H (hp.objs.size + 1) = none := I.hok.fresh above
  have up : ∀ b o, hp.get? b = some o → ((hp.push (PySem.W.kdv_tup ps)).push (PySem.HandSPX.excO C hp.objs.size)).get? b = some o := fun b o e =>
    Heap.get?_push_of_some _ (Heap.get?_push_of_some _ e)
  have at1 : ((hp.push (PySem.W.kdv_tup ps)).push (PySem.HandSPX.excO C hp.objs.size)).get? (hp.objs.size + 1) = some (PySem.HandSPX.excO C hp.objs.size) := by
    heap_get
  have J : Inv X pins σ (upd H (hp.objs.size + 1) (exo (hp.objs.size + 1) C none)) ⟨(hp.push (PySem.W.kdv_tup ps)).push (PySem.HandSPX.excO C hp.objs.size), g, dr, tk, os⟩ :=
    Inv.laid (I := I) (t' := tk) (a := hp.objs.size + 1) (o := exo (hp.objs.size + 1) C none) (h' := (hp.push (PySem.W.kdv_tup ps)).push (PySem.HandSPX.excO C hp.objs.size)) up above (exo_ok at1)
  have rr : Vals [V.ref (hp.objs.size + 1), y] [Value.ref (hp.objs.size + 1), u] := .cons rfl (.cons r .nil)
  refine wpAny_call (MXa.callOwn F.excBase_ValueError (fun Y => PySem.HandSPX.refsVE_contains Y bm hbm) (I.kIn _ _ hC) short (PySem.W.looks_findIn I.kIn T.ini) (fun self => PySem.W.bind_fn I.kIn self T.tyI)
    (codeAny_mono (F1.run _ X.stack _ _ ⟨Value.ref (hp.objs.size + 1) :: ps, kw⟩ [Value.ref (hp.objs.size + 1), u] [V.ref (hp.objs.size + 1), y]
      (fun v H2 => v = .non ∧ ∃ d, H d = none ∧ d ≠ hp.objs.size + 1 ∧ H2 = hMade H (hp.objs.size + 1) d C fl y) E0 (hr.make C ps kw) (J.env0.make C ps kw) (bi _ _ J.kIn) rr
      ⟨hp.objs.size + 1, C, y, rfl, T.ox, T.noF, upd_same, fun d nd ne => ⟨rfl, d, by rw [upd_ne ne] at nd; exact nd, ne, rfl⟩⟩) fun r2 s2 z => ?_))
  cases r2 with
  | error er => exact z.elim
  | ok fl2 =>
    cases fl2 with
    | ret v2 =>
      obtain ⟨v, H', I3, rv, ev, d, nd, ne, rfl⟩ := J.after z
      obtain ⟨v', H2', os2, bare2, un2, hok2, rv', ev', d', nd', ne', eH⟩ := z
      subst ev
      refine ⟨rv, ?_⟩
      subst eH
      have J2 := J.after (Q := fun v H2 => v = v' ∧ H2 = hMade H (hp.objs.size + 1) d' C fl y) ⟨v', _, os2, bare2, un2, hok2, rv', rfl, rfl⟩
      obtain ⟨_, _, I4, _, rfl, rfl⟩ := J2
      exact fin s2 d' free nd' ne' os2 bare2 I4 un2 hok2
    | next => exact False.elim z
    | brk => exact False.elim z
    | cont => exact False.elim z
end
end MXb
/-! The class of an error that has a dict of its own; isinstance of it. -/
namespace MXc
open PySem PySem.W PySem.Spec PySem.Calls PyProof.Rows
section
variable {prog : Program} {w : World} {A : Around} {E : Value → Shared → Prop} {s : Shared} {K : Frag} {x D : Addr} {ox : Obj} {od : Option Obj}
theorem found {C : Addr} {name : Str} {a g : Value} (c1 : (clsIn K C).isSome = true) (c2 : findIn K (.ref C) name = some (some a)) (c3 : specialIn K a "__get__" = some (some g)) (c4 : takesIn K a = some true) : findObj K C od name = some (.bind g a) := by
  obtain ⟨cd, e⟩ := Option.isSome_iff_exists.mp c1
  unfold findObj
  rw [e, Option.bind_some, c2, Option.bind_some]
  simp [c3, c4]
theorem askClass {Q : Option Value → Shared → Prop} (T : L2.ExcC K D) (X : K.In s.heap) (I : InstAt s.heap x ox D od) (go : Q (some (.ref D)) { s with toks := s.toks + 1 }) :
    wpAny (model prog w) A (getAttr? (.ref x) "__class__") Q E s := by
  have fo : findObj K D od "__class__" = some (.bind (.builtin "getset_descriptor.__get__") (.builtin "object.__class__")) :=
    found (by obtain ⟨cd, e, _⟩ := any_some T.hd; rw [e]; rfl) T.ha T.hn T.ht
  obtain ⟨hp, g, d, t, os⟩ := s
  have a0 := I.type (M := model prog w)
  have a1 := looks_findIn (M := model prog w) X T.hg
  have a2 := looks_findIn (M := model prog w) X T.hk
  have a3 := looks_find (M := model prog w) X I fo
  have below : Looks (model prog w) hp (isInstance (.ref x) (.type "BaseException")) true :=
    a0.andThen (looks_subIn X T.hs)
  have z2 : (Value.builtin "BaseException.__getattribute__" == Value.builtin "object.__getattribute__") = false := by
    decide +kernel
  have z1 : (onTheHeap (Value.ref D) && Value.builtin "BaseException.__getattribute__" == Value.builtin "object.__getattribute__") = false := by
    rw [z2]
    rfl
  have z0 : (false && onTheHeap (Value.builtin "BaseException.__getattribute__")) = false := rfl
  unfold getAttr? getAttrBy? getAttrBy
  refine wpAny_bind (wpAny_mkText (wpAny_bind (wpAny_attempt (wpAny_holding (wpAny_bind (a0.at (wpAny_bind (a1.at ?_))))))))
  show wpAny _ _ (if (onTheHeap (Value.ref D) && Value.builtin "BaseException.__getattribute__" == Value.builtin "object.__getattribute__") = true then _ else _) _ _ _
  rw [z1]
  rw [if_neg Bool.false_ne_true]
  unfold getAttrByItsOwn hookBefore
  refine wpAny_bind ?_
  rw [if_pos (show onTheHeap (Value.ref D) = true from rfl)]
  refine a2.at (wpAny_bind (wpAny_attempt (wpAny_holding ?_)))
  unfold callGetattribute
  rw [z0]
  rw [if_neg Bool.false_ne_true]
  unfold boundAndCalled
  rw [PySem.F.excAttr_ValueError.ga.bind (.ref x)]
  refine wpAny_bind (wpAny_pure ?_)
  show wpAny _ _ (call (.builtin "BaseException.__getattribute__") [.ref x, .str "__class__" t]) _ _ _
  refine wpAny_call (codeAny_call_builtin PySem.F.excAttr_ValueError.ga.plain PySem.F.entry_bexc_ga ?_)
  refine @check_slot (model prog w) _ _ ⟨hp, g, d, t + 1, os⟩ "BaseException.__getattribute__" "BaseException" "__getattribute__" (.ref x)
    [.str "__class__" t] [] _ (by decide +kernel) (by decide +kernel) below (PySem.F.args_bexc_ga (.ref x) (.str "__class__" t)) ?_
  unfold Builtin.«object.__getattribute__»
  refine wpAny_bind (wpAny_of_eq (a := ((Value.ref x : Value), [Value.str "__class__" t])) (by first | rfl | (simp only [slotArgs]; rfl)) ?_)
  refine wpAny_bind (wpAny_pure (wpAny_bind (a0.at (wpAny_bind (a3.at ?_)))))
  show wpAny _ _ (holding [Value.builtin "object.__class__"] (call (.builtin "getset_descriptor.__get__") [.builtin "object.__class__", .ref x, .ref D]) >>= ret) _ _ _
  refine wpAny_bind (wpAny_holding (wpAny_call (class_get (s := ⟨hp, g, d, t + 1, os⟩) (ox := ox) (od := od) X I T.hm (wpAny_pure ?_))))
  show wpAny _ _ (handedOut (.ref D)) _ _ _
  rw [handedOut_of (v := .ref D) rfl]
  first
    | exact wpAny_pure (wpAny_pure go)
    | exact wpAny_pure go
    | exact wpAny_pure (wpAny_bind (wpAny_pure (wpAny_pure go)))
theorem kit_err (T : L2.ExcC K D) : KitX K (.ref x) (.ref D) (fun h => InstAt h x ox D od) := by
  obtain ⟨cdD, hcD, _⟩ := any_some T.hd
  have at0 : ∃ c' d' cd' sl', K.lookup D = some ⟨c', d', .cls cd', sl'⟩ := by
    unfold clsIn at hcD
    split at hcD
    · rename_i c' d' cd' sl' ho
      exact ⟨_, _, _, _, ho⟩
    · cases hcD
  obtain ⟨c', d', cd', sl', ho⟩ := at0
  refine ⟨fun _ _ _ I => I.type, fun _ _ X _ => ?_, fun h tp dd its n sl X htp => ?_, fun X I k => askClass T X I k⟩
  · intro A' Q' E' s' k q
    unfold isType loadHead
    exact wpAny_bind (wpAny_loadPart (k _ _ (X _ _ ho)) (wpAny_pure q))
  · refine Bool.eq_false_iff.mpr fun q => ?_
    obtain rfl : D = tp := Value.ref.inj (beq_iff_eq.mp q)
    have z := (X _ _ ho).symm.trans htp
    cases z
end
end MXc
/-! Readings and rules: C(e) raised, C(e) and C(fl = e) as values, their field, a def that is handed the error of an except suite, isinstance there. -/
namespace MXd
open PySem PySem.Spec PyProof.Rows L2 MXb
abbrev St := L2.St
/-- raise C(e): the way out -/
def tMk1 (C : Addr) (fl : Str) (te : TE) : St → Hp → XK → Prop := fun σ H Q => te σ H fun v H1 => ∀ d, H1 d = none → Q (.ref C) (some d) (upd H1 d (.xd [(fl, v)]))
/-- C(e) as a value: the new error at a, its dict at d -/
def tMkV (C : Addr) (fl : Str) (te : TE) : TE := fun σ H Q => te σ H fun v H1 => ∀ a d, H1 a = none → H1 d = none → d ≠ a → Q (.ref a) (hMade H1 a d C fl v)
def tMkK (C : Addr) (fl : Str) (tk : TA) : TE := fun σ H Q => tk σ H fun vs H1 => ∃ v, vs = [v] ∧ ∀ a d, H1 a = none → H1 d = none → d ≠ a → Q (.ref a) (hMade H1 a d C fl v)
/-- e.fl, e an error that was just made -/
def tFx (K : PySem.W.Frag) (fl : Str) (te : TE) : TE := fun σ H Q => te σ H fun x H1 => ∃ (a C d : Addr) (fs : List (Str × V)) (v : V), x = .ref a ∧ XfC K C ∧ PySem.W.findIn K (.ref C) fl = some none ∧
  H1 a = some (exo a C (some d)) ∧ H1 d = some (exd d fs) ∧ fs.lookup fl = some v ∧ Q v H1
theorem made_end {H : Hp} {a d C : Addr} {fl : Str} {y : V} {o : HO} (na : H a = none) (ne : d ≠ a) : upd (del (hMade H a d C fl y) a) d o = upd H d o := by
  funext b
  by_cases hd : b = d
  · rw [hd, upd_same, upd_same]
  · rw [upd_ne hd, upd_ne hd]
    by_cases ha : b = a
    · rw [ha, del_same, na]
    · unfold hMade
      rw [del_ne ha, upd_ne ha, upd_ne hd, upd_ne ha]
theorem made_a {H : Hp} {a d C : Addr} {fl : Str} {y : V} : hMade H a d C fl y a = some (exo a C (some d)) := upd_same
theorem made_d {H : Hp} {a d C : Addr} {fl : Str} {y : V} (ne : d ≠ a) : hMade H a d C fl y d = some (exd d [(fl, y)]) := by
  unfold hMade
  rw [upd_ne ne, upd_same]
theorem made_o {H : Hp} {a d C : Addr} {fl : Str} {y : V} {b : Addr} {o : HO} (na : H a = none) (nd : H d = none) (e : H b = some o) : hMade H a d C fl y b = some o := by
  unfold hMade
  rw [upd_ne (ne_of_none e na), upd_ne (ne_of_none e nd), upd_ne (ne_of_none e na)]
  exact e
section
variable {X : Cx} {fI C : Addr} {nm fl : Str} {k : Nat} {fd : FuncData} {e : Expr} {te : TE} {tk : TA} {p pos kpos : Pos}
theorem pmk1 (T : XC X.K X.mg fI C nm fl) (F1 : FnOk X.prog X.w X.K X.mg X.base CX0 k fI fd ["self", fl] (spInit X.K fl)) (bd : Bind1 X.K fd fl) (hr : Room (k + 1) X.A) (hg : Gl X nm) (he : PE X e te)
    (hdb : (nm == ("__debug__" : Str)) = false := by decide) (hst : starEach [e] X.env = (false, eval e X.env) :: starEach [] X.env := by rfl) (hpl : (backTo pos (starEach [] X.env)).any (·.1) = false := by rfl) :
    L2N.PMk X (.Call (.Name nm p) [e] [] pos) (tMk1 C fl te) := by
  intro pins s σ H Q I h
  refine wpAny_Call_Name_kw (ld_glob I hg T.gC ?_ hdb)
  have ha : PA X [e] (tCons te tNil) := pa_cons he pa_nil hst
  refine PySem.W.callWith_K (h₀ := X.base) I.ok.mod.kin T.ox.kC (thn (ha.run pos pins s σ H (fun vs H1 => ∃ v, vs = [v] ∧ ∀ d, H1 d = none → Q (.ref C) (some d) (upd H1 d (.xd [(fl, v)])))
    I (show te σ H _ from ?_)) fun us s1 ⟨vs, H1, I1, r1, v, ev, q1⟩ => ⟨I1.kIn, ?_⟩) hst hpl
  · have imp : ∀ {Q1 Q2 : VK}, Q1 = Q2 → te σ H Q1 → te σ H Q2 := fun e z => e ▸ z
    refine imp ?_ h
    funext v H1
    exact propext ⟨fun z => ⟨v, rfl, z⟩, fun ⟨v', e', z⟩ => by cases e'; exact z⟩
  · subst ev
    obtain ⟨u, rfl, ru⟩ := r1.one
    refine run_x T F1 hr I1 ru (show 1 ≤ sizeLine by rw [sizeLine_eq]; decide) (fun s a X => bd.pos s a u X) fun s2 d na nd ne os2 bare2 I4 un2 hok2 => ?_
    obtain ⟨hp, g, dr, t, os⟩ := s1
    obtain ⟨h2, g2, d2, t2, os'⟩ := s2
    have up : ∀ b o, hp.get? b = some o → ((hp.push (PySem.W.kdv_tup [u])).push (PySem.HandSPX.excO C hp.objs.size)).get? b = some o := fun b o e =>
      Heap.get?_push_of_some _ (Heap.get?_push_of_some _ e)
    obtain ⟨t0, G, J, kG, ge, hoe, na2⟩ := mk_end0 (d2 := d2) (t2 := t2) I1 (Nat.le_succ _) up un2 hok2 os2 bare2 made_a (made_d ne) nd
    have q2 := q1 d nd
    rw [← made_end (C := C) (fl := fl) (y := v) na ne] at q2
    exact ⟨hp.objs.size + 1, _, _, ⟨G, g2, d2, t2, os'⟩, _, .ref C, some d, rfl, J, kG, ge, hoe, ⟨rfl, rfl, fun vs e => by cases e; rfl⟩, rfl, rfl, na2, rfl, bare2, raises_own T.ox.exC T.ox.tyC, q2⟩
theorem pe_mkv (T : XC X.K X.mg fI C nm fl) (F1 : FnOk X.prog X.w X.K X.mg X.base CX0 k fI fd ["self", fl] (spInit X.K fl)) (bd : Bind1 X.K fd fl) (hr : Room (k + 1) X.A) (hg : Gl X nm) (he : PE X e te)
    (hdb : (nm == ("__debug__" : Str)) = false := by decide) (hst : starEach [e] X.env = (false, eval e X.env) :: starEach [] X.env := by rfl) (hpl : (backTo pos (starEach [] X.env)).any (·.1) = false := by rfl) :
    PE X (.Call (.Name nm p) [e] [] pos) (tMkV C fl te) := by
  refine ⟨fun pins s σ H Q I h => ?_⟩
  refine wpAny_Call_Name_kw (ld_glob I hg T.gC ?_ hdb)
  have ha : PA X [e] (tCons te tNil) := pa_cons he pa_nil hst
  refine PySem.W.callWith_K (h₀ := X.base) I.ok.mod.kin T.ox.kC (thn (ha.run pos pins s σ H (fun vs H1 => ∃ v, vs = [v] ∧ ∀ a d, H1 a = none → H1 d = none → d ≠ a → Q (.ref a) (hMade H1 a d C fl v))
    I (show te σ H _ from ?_)) fun us s1 ⟨vs, H1, I1, r1, v, ev, q1⟩ => ⟨I1.kIn, ?_⟩) hst hpl
  · have imp : ∀ {Q1 Q2 : VK}, Q1 = Q2 → te σ H Q1 → te σ H Q2 := fun e z => e ▸ z
    refine imp ?_ h
    funext v H1
    exact propext ⟨fun z => ⟨v, rfl, z⟩, fun ⟨v', e', z⟩ => by cases e'; exact z⟩
  · subst ev
    obtain ⟨u, rfl, ru⟩ := r1.one
    exact run_x T F1 hr I1 ru (show 1 ≤ sizeLine by rw [sizeLine_eq]; decide) (fun s a X => bd.pos s a u X) fun s2 d na nd ne os2 bare2 I4 un2 hok2 => ⟨V.ref (s1.heap.objs.size + 1), _, I4, rfl, q1 _ d na nd ne⟩
theorem pe_mkK (T : XC X.K X.mg fI C nm fl) (F1 : FnOk X.prog X.w X.K X.mg X.base CX0 k fI fd ["self", fl] (spInit X.K fl)) (bd : Bind1 X.K fd fl) (hr : Room (k + 1) X.A) (hg : Gl X nm) {kws : List Keyword} (hk : PK X kws tk)
    (hall : (backToKw pos (keywordEach kws X.env)).all (·.1.isSome) = true := by rfl) (hks : (backToKw pos (keywordEach kws X.env)).filterMap (·.1) = [fl] := by rfl)
    (hdb : (nm == ("__debug__" : Str)) = false := by decide)
    (hpl : ((backTo pos (starEach [] X.env)).any (·.1) || (backToKw pos (keywordEach kws X.env)).any (·.1.isNone)) = false := by rfl) :
    PE X (.Call (.Name nm p) [] kws pos) (tMkK C fl tk) := by
  refine ⟨fun pins s σ H Q I h => ?_⟩
  refine wpAny_Call_Name_kw (ld_glob I hg T.gC ?_ hdb)
  refine PySem.W.callWith_KW0 (h₀ := X.base) I.ok.mod.kin T.ox.kC hall ?_ hpl
  refine thn (hk.run pos pins s σ H _ I h) fun ws s2 ⟨zs, H2, I2, rz, v, ev, q2⟩ => ⟨I2.kIn, ?_⟩
  subst ev
  obtain ⟨u, rfl, ru⟩ := rz.one
  rw [hks]
  exact run_x (ps := []) (kw := [(fl, u)]) T F1 hr I2 ru (by rw [sizeLine_eq]; decide) (fun s a X => bd.kw s a u X) fun s3 d na nd ne os2 bare2 I4 un2 hok2 => ⟨V.ref (s2.heap.objs.size + 1), _, I4, rfl, q2 _ d na nd ne⟩
theorem pe_fx (he : PE X e te) (hb : attributeBase e fl X.env (eval e X.env) = eval e X.env := by rfl) : PE X (.Attribute e fl pos) (tFx X.K fl te) := by
  refine ⟨fun pins s σ H Q I h => ?_⟩
  refine attr_of hb (thn (he.run pins s σ H _ I h) fun u s1 hh => ?_)
  obtain ⟨x, H1, I1, rx, a, C, d, fs, v, rfl, T, no, ea, ed, l, q⟩ := hh
  obtain rfl : u = Value.ref a := rx
  obtain ⟨t1, ho⟩ := exo_at I1.hok ea
  obtain ⟨mA, ns, rel⟩ := exd_at I1.hok ed
  obtain ⟨od, hod, lk⟩ := lookIn_ns ns
  obtain ⟨u, hu, ru⟩ := RelO.some_of (v := v) (o := mA fl) (by rw [← l]; exact rel fl)
  have J : PySem.W.InstAt s1.heap a { cls := .ref C, dict := some d, data := .fields #[.ref t1, .none, .none, .none, .bool false, .none] } C (some od) := ⟨ho, rfl, rfl, hod⟩
  exact HandSPX.exc_get I1.kIn J T.ga T.gg T.exC (PySem.W.findObj_own T.hdC no rfl (by rw [lk, hu])) (handed_of ru) ⟨v, H1, I1.tok _, ru, q⟩
end
end MXd
/-! A def that an except suite hands its error to. -/
namespace MXe
open PySem PySem.Spec PyProof.Rows L2 L2H
abbrev St := L2.St
/-- a pinned error of the class at C, its dict at d -/
structure ErrP (C d : Addr) (p : Addr × Obj) : Prop where
  z : Zc (.ref C) (some d) p.2
  fs : ∃ vs, p.2.data = .fields vs
/-- a def's promise where p is such an error: sp is told its place, its class, its dict -/
structure FnE (P : Program) (w : World) (K : PySem.W.Frag) (mg : Str → Option Value) (base : Heap) (k : Nat) (f : Addr) (fd : FuncData) (ps : List Str) (sp : Addr → Addr → Addr → Sp) : Prop where
  len : ∀ a C d vs H Q E, sp a C d vs H Q E → vs.length = ps.length
  run : ∀ (A : Around) (outer : List Env) (s : Shared) (H : Hp) (args : Args) (us : List Value) (vs : List V) (Q : VK) (E : XK) (p : Addr × Obj) (C d : Addr), RoomH k A → ErrP C d p → PinOk outer H s p →
    Env0 P w K mg base A outer s H → BindsTo s fd args (ps.zip us) → Vals vs us → sp p.1 C d vs H Q E → codeAny (model P w) A (.call (.ref f) args) (CR CX0 outer P w H s Q E) s
section
variable {P : Program} {w : World} {K : PySem.W.Frag} {mg : Str → Option Value} {base : Heap} {k : Nat} {f : Addr} {fd : FuncData} {N ps : List Str} {sp : Addr → Addr → Addr → Sp} {x qual : Str} {st : Stmt}
theorem _root_.L2.Fun.okE (F : Fun K x qual st f fd) (S : FnScope N ps (defScope st)) (len : ∀ a C d vs H Q E, sp a C d vs H Q E → vs.length = ps.length)
    (body : ∀ (cdv : Value) (A : Around) (outer : List Env) (s : Shared) (H : Hp) (vs : List V) (Q : VK) (E : XK) (p : Addr × Obj) (C d : Addr), ErrP C d p → RoomH k (A.deeper (envOfC qual (defScope st) s.heap.objs.size f cdv)) → sp p.1 C d vs H Q E →
      ∃ t, PSs (cxH CX0 P w K mg base N qual (defScope st) f cdv A outer s H E p) (defBody st) t ∧ t { nx := fun _ H' => Q .non H', rt := Q } (L2.start N vs) H) : FnE P w K mg base (k + 1) f fd ps sp := by
  obtain ⟨oc, od, kV, doc, pm, an, cdv, ct, osl, rfl, lk, hcd⟩ := F.ex
  constructor
  · exact len
  · intro A outer s H args us vs Q E p C d room ep pin e0 bi rel hsp
    have nl := len _ _ _ _ _ _ _ hsp
    have up : ∀ b o, base.get? b = some o → s.heap.get? b = some o := fun b o e => (e0.bs b o e).1
    have kin : K.In s.heap := e0.mod.kin.keeps up
    have kinds : ∀ y ∈ ps.zip us, (defScope st).names.lookup y.1 = some .local ∨ ((defScope st).names.lookup y.1 = some .cell ∧ ((cellsFrom (s.heap.objs.size + 1) (defScope st).names []).lookup y.1).isSome = true) := by
      rintro ⟨n, v⟩ hy
      rcases S.par n (List.of_mem_zip hy).1 with q | q
      · exact Or.inl q
      · exact Or.inr ⟨q, PySem.W.cellsFrom_some _ _ _ (Or.inl q)⟩
    refine codeAny_call_function room.depth (kin _ _ lk) rfl S.co S.gen rfl (PySem.W.codeRec_of kin hcd) (bi _ _ _ _ (wpAny_newFunctionEnv_cells S.kind kinds fun env eqv s1 ic => ?_))
    subst eqv
    obtain ⟨t, ht, hq⟩ := body cdv A outer s H vs Q E p C d ep (room.deeper _) hsp
    have J : Inv (cxH CX0 P w K mg base N qual (defScope st) f cdv A outer s H E p) [] (L2.start N vs) H s1 := inv_startH S pin e0 nl rel ic
    refine ⟨(e0.mod.nolimit.keeps up).keeps ic.toInCall.keep, codeAny_func (wpAny_mono (ht.run [] s1 (L2.start N vs) H _ J hq) (fun fl s' z => ?_) fun e s' z => z)⟩
    have done : ∀ {σ' : St} {H' : Hp} {v : V} {u : Value}, Inv (cxH CX0 P w K mg base N qual (defScope st) f cdv A outer s H E p) [] σ' H' s' → RelV v u → Q v H' → CE outer P w H s Q u s' := by
      intro σ' H' v u I r q
      exact ⟨v, H', I.os, I.bare, I.base, I.hok, r, q⟩
    match fl, z with
    | .ret u, ⟨v, σ', H', I, r, q⟩ => exact done I r q
    | .next, ⟨σ', H', I, q⟩ => exact done (v := V.non) (u := Value.none) I rfl q
    | .brk, ⟨_, _, _, q⟩ => exact False.elim q
    | .cont, ⟨_, _, _, q⟩ => exact False.elim q
end
/-- f(..) where p is at hand -/
def tCallE (sp : Addr → Addr → Addr → Sp) (a C d : Addr) (t : TA) : TE := fun σ H Q => t σ H fun vs H1 => sp a C d vs H1 Q E0
/-- isinstance(e, c), e the error at a -/
def rIsP (K : PySem.W.Frag) (a C d : Addr) : List V → Hp → VK → Prop := fun xs H Q => ExcC K C ∧ ∃ (c : V) (cv : Value) (b : Bool) (fs : List (Str × V)), xs = [.ref a, c] ∧ (∀ u, RelV c u → u = cv) ∧ PySem.W.kitOne K (.ref C) cv = some b ∧ H d = some (.xd fs) ∧ Q (.bl b) H
section
variable {X : Cx} {k : Nat} {f C d : Addr} {fd : FuncData} {ps : List Str} {sp : Addr → Addr → Addr → Sp} {x : Str} {q pos : Pos} {e : Expr} {es : List Expr} {t : TA} {p : Addr × Obj}
theorem pe_callE (F : FnE X.prog X.w X.K X.mg X.base k f fd ps sp) (hr : RoomH k X.A) (hp : p ∈ X.pn) (ep : ErrP C d p) (hg : Gl X x) (hm : X.mg x = some (.ref f)) (hk : PySem.W.keepIn X.K (.ref f) = true) (hb : Binds X.K fd ps []) (ha : PA X (e :: es) t)
    (hdb : (x == ("__debug__" : Str)) = false := by decide) (he : starEach (e :: es) X.env = (false, eval e X.env) :: starEach es X.env := by rfl) (hpl : (backTo pos (starEach es X.env)).any (·.1) = false := by rfl) :
    PE X (.Call (.Name x q) (e :: es) [] pos) (tCallE sp p.1 C d t) := by
  refine ⟨fun pins s σ H Q I h => wpAny_Call_Name_kw (ld_glob I hg hm ?_ hdb)⟩
  refine PySem.W.callWith_K (h₀ := X.base) I.ok.mod.kin hk (thn (ha.run pos pins s σ H _ I h) fun us s1 ⟨vs, H1, I1, r, z⟩ => ⟨I1.kIn, ?_⟩) he hpl
  have nl : us.length = ps.length := by
    rw [← r.length]
    exact F.len _ _ _ _ _ _ _ z
  have bb := hb s1 us I1.kIn (by rw [List.append_nil]; exact nl)
  rw [List.append_nil] at bb
  obtain ⟨p1, p2, p3, p4, p5⟩ := I1.pin p (List.mem_append_left _ hp)
  have pin : PinOk X.stack H1 s1 p := ⟨p1, p2, fun hm => (List.mem_cons.mp (I1.stkSub p.1 hm)).elim p3 p4, p5⟩
  refine wpAny_call (codeAny_mono (F.run X.A X.stack s1 H1 ⟨us, []⟩ us vs Q E0 p C d hr ep pin I1.env0 bb r z) fun r2 s2 y => ?_)
  match r2, y with
  | .ok (.ret u), y => exact I1.after y
  | .ok .next, y => exact False.elim y
  | .ok .brk, y => exact False.elim y
  | .ok .cont, y => exact False.elim y
  | .error er, y => exact False.elim y
theorem call_isP (hp : p ∈ X.pn) (ep : ErrP C d p) : CallR X (.builtin "isinstance") (rIsP X.K p.1 C d) := by
  intro pins s σ H xs us Q I r h
  obtain ⟨ec, c, cv, b, fs, rfl, hcv, e, hd, q⟩ := h
  match us, r with
  | [u0, u1], .cons r0 (.cons r1 .nil) =>
    obtain rfl : u0 = Value.ref p.1 := r0
    obtain rfl := hcv _ r1
    obtain ⟨hget, _⟩ := I.pin p (List.mem_append_left _ hp)
    obtain ⟨vs, hv⟩ := ep.fs
    have hx : ObjOk X.prog X.w H s.heap d (.xd fs) := I.hok d _ hd
    obtain ⟨mA, ns, _⟩ := hx
    obtain ⟨od, hod, _⟩ := lookIn_ns ns
    have J : PySem.W.InstAt s.heap p.1 p.2 C (some od) := by
      obtain ⟨z1, z2⟩ := ep.z
      exact ⟨hget, z1, by unfold PySem.W.notCls; rw [hv] <;> rfl, by rw [z2]; exact hod⟩
    exact PySem.W.kia_one (MXc.kit_err ec) I.kIn J e (fun z => nomatch z) fun tk => ⟨.bl b, H, I.kept (t' := tk) fun _ _ z => z, rfl, q⟩
end
end MXe
/-! xs.count(True), xs a list of bools. -/
namespace MXf
open PySem PySem.Spec PyProof.Rows L2
theorem bools_is : ∀ {bs : List Bool} {us : List Value}, Vals (bs.map V.bl) us → us = bs.map Value.bool
  | [], _, .nil => rfl
  | b :: r, _, .cons h t => by
    have e := bools_is t
    rw [e, show _ = Value.bool b from h]
    rfl
theorem count_is (k : Bool) : ∀ bs : List Bool, (bs.map Value.bool).countP (isBoolOf k) = bs.count k
  | [] => rfl
  | b :: r => by
    rw [List.map_cons, List.countP_cons, List.count_cons, count_is k r]
    rfl
/-- xs.count(k) -/
def rCntB (K : PySem.W.Frag) : V → List V → Hp → VK → Prop := fun x xs H Q => ∃ (p : Addr) (bs : List Bool) (k : Bool), x = .ref p ∧ xs = [.bl k] ∧ SqL K H p (bs.map V.bl) ∧ Q (.int (bs.count k : Nat)) H
theorem mt_countB {X : Cx} : MtR X "list.count" (rCntB X.K) := by
  intro pins s σ H x xs v us Q I rx rxs h
  obtain ⟨p, bs, k, rfl, rfl, hs, q⟩ := h
  obtain rfl : v = Value.ref p := rx
  obtain ⟨u, rfl, ru⟩ := rxs.one
  obtain rfl : u = Value.bool k := ru
  obtain ⟨its, rv, ⟨⟨cls, dd, data, sl⟩, n, ho, hc, hdn, hd⟩, hlen⟩ := I.list hs
  simp only at hc hd
  subst hc hd
  have e := bools_is rv
  subst e
  refine call_meets PySem.F.slot_list_count ⟨_, ho, rfl⟩ PySem.F.entry_list_count (PySem.F.args_list_count_2 _ _)
    (SeqAt.list_countAt p (bs.map Value.bool).toArray n dd sl (.bool k) (isBoolOf k)) ⟨ho, fun y hy => ?_, ?_⟩
  · have hy' : y ∈ bs.map Value.bool := by simpa using hy
    obtain ⟨b, _, rfl⟩ := List.mem_map.mp hy'
    exact SeqAt.EqAt.bool_bool b k
  · refine ⟨.int (bs.count k : Nat), H, I.tok _, ⟨s.toks, ?_⟩, q⟩
    show Value.int (((bs.map Value.bool).toArray.toList.countP (isBoolOf k) : Nat) : Int) s.toks = Value.int ((bs.count k : Nat) : Int) s.toks
    rw [← count_is k bs]
end MXf
/-! C(e, ..) of an own class whose __init__ may raise: the wish may speak of the caller's slots. What is never reached. -/
namespace MXg
open PySem PySem.Spec PyProof.Rows L2
abbrev St := L2.St
def tMakeS (C : Addr) (sp : Sp) (E : St → XK) (t : TA) : TE := fun σ H Q => t σ H fun vs H1 => ∀ x dx, H1 x = none → H1 dx = none → dx ≠ x →
  sp (.ref x :: vs) (upd (upd H1 dx (.own x)) x (.ins C dx [])) (fun v H2 => v = .non ∧ Q (.ref x) H2) (E σ)
section
variable {X : Cx} {CX : CXT} {k : Nat} {f C : Addr} {fd : FuncData} {ps : List Str} {sp : Sp} {E : St → XK} {x : Str} {p pos : Pos} {e : Expr} {es : List Expr} {t : TA}
theorem pe_makeS (M : Mk X.K C f) (F : FnOk X.prog X.w X.K X.mg X.base CX k f fd ps sp) (hr : Room (k + 1) X.A) (hg : Gl X x) (hm : X.mg x = some (.ref C)) (hb : Binds X.K fd ps []) (hx : ∀ σ, PassesAt CX X σ (E σ)) (ha : PA X (e :: es) t)
    (hdb : (x == ("__debug__" : Str)) = false := by decide) (he : starEach (e :: es) X.env = (false, eval e X.env) :: starEach es X.env := by rfl) (hpl : (backTo pos (starEach es X.env)).any (·.1) = false := by rfl) :
    PE X (.Call (.Name x p) (e :: es) [] pos) (tMakeS C sp E t) := by
  refine ⟨fun pins s σ H Q I h => wpAny_Call_Name_kw (ld_glob I hg hm ?_ hdb)⟩
  refine PySem.W.callWith_K (h₀ := X.base) I.ok.mod.kin M.kp (thn (ha.run pos pins s σ H _ I h) fun us s1 ⟨vs, H1, I1, r, q⟩ => ⟨I1.kIn, ?_⟩) he hpl
  have want := q (s1.heap.objs.size + 1) s1.heap.objs.size (I1.hok.fresh (Nat.le_succ _)) (I1.hok.fresh (Nat.le_refl _)) (Nat.ne_of_lt (Nat.lt_succ_self _))
  have J := Inv.made (C := C) I1
  have rr : Vals (V.ref (s1.heap.objs.size + 1) :: vs) (Value.ref (s1.heap.objs.size + 1) :: us) := .cons rfl r
  have nl : (Value.ref (s1.heap.objs.size + 1) :: us).length = ps.length := by
    rw [← rr.length]
    exact F.len _ _ _ _ want
  have bb := hb ⟨(s1.heap.push PySem.W.emptyDict).push (PySem.W.instObj C s1.heap.objs.size), s1.gens, s1.drawn, s1.toks, s1.os⟩ (Value.ref (s1.heap.objs.size + 1) :: us) J.kIn (by rw [List.append_nil]; exact nl)
  rw [List.append_nil] at bb
  refine wpAny_call (make_map (f := f) I1.kIn M.makes M.init (beq_iff_eq.mp M.fn) (codeAny_mono
    (F.run _ X.stack _ _ ⟨Value.ref (s1.heap.objs.size + 1) :: us, []⟩ _ _ _ (E σ) (hr.make C us []) (J.env0.make C us []) bb rr want) fun r2 s2 z => ?_))
  match r2, z with
  | .error er, z => exact hx σ pins _ _ er s2 J z
  | .ok (.ret u), z =>
    obtain ⟨v, H', I3, rv, ev, q3⟩ := J.after z
    subst ev
    exact ⟨rv, ⟨V.ref (s1.heap.objs.size + 1), H', I3, rfl, q3⟩⟩
  | .ok .next, z => exact False.elim z
  | .ok .brk, z => exact False.elim z
  | .ok .cont, z => exact False.elim z
/-- never reached -/
theorem pt_no {e : Expr} : PT X e (fun _ _ _ => False) := ⟨fun _ _ _ _ _ _ h => h.elim⟩
theorem pe_no {e : Expr} : PE X e (fun _ _ _ => False) := ⟨fun _ _ _ _ _ _ h => h.elim⟩
theorem pss_no {st : List Stmt} : PSs X st (fun _ _ _ => False) := ⟨fun _ _ _ _ _ _ h => h.elim⟩
end
end MXg
/-! ### the law of the error classes -/
namespace K0
open PySem PySem.Spec PyProof.Rows L2 L2H MXb MXd MXe MXf
abbrev St := L2.St
theorem _root_.L2.Fun.okC {P : Program} {w : World} {K : PySem.W.Frag} {mg : Str → Option Value} {base : Heap} {CX : CXT} {x qual : Str} {st : Stmt} {f : Addr} {fd : FuncData} {N ps : List Str} {k : Nat} {sp : Sp} (F : Fun K x qual st f fd) (S : FnScope N ps (defScope st))
    (len : ∀ vs H Q E, sp vs H Q E → vs.length = ps.length)
    (body : ∀ (cdv : Value) (A : Around) (outer : List Env) (s : Shared) (H : Hp) (vs : List V) (Q : VK) (E : XK), Room k (A.deeper (envOfC qual (defScope st) s.heap.objs.size f cdv)) → sp vs H Q E →
      ∃ t, PSs (cxOf CX P w K mg base N qual (defScope st) f cdv A outer s H E) (defBody st) t ∧ t { nx := fun _ H' => Q .non H', rt := Q } (start N vs) H) : FnOk P w K mg base CX (k + 1) f fd ps sp := by
  obtain ⟨oc, od, kV, doc, pm, an, cdv, ct, osl, rfl, lk, hcd⟩ := F.ex
  exact fn_of lk hcd S len fun A outer s H vs Q E room q => body cdv A outer s H vs Q E room q
def top (i : Nat) : Stmt := PySem.Challenge.pw_runsdown_k00_error_classes.main.body.getD i (.Pass ⟨0, 0, 0, 0⟩)
abbrev sInit : Stmt := inClass (top 2) 0
abbrev sOne : Stmt := top 36
abbrev sMore : Stmt := top 37
abbrev sMarks : Stmt := top 38
abbrev sWay : Stmt := top 39
abbrev sKept : Stmt := top 40
abbrev sVals : Stmt := top 41
abbrev sLaw : Stmt := top 42
def nms : List Str := ["InvalidChart", "InvalidEnds", "InvalidFast", "InvalidLoop", "InvalidLoops", "InvalidLot", "InvalidOrder", "InvalidPins", "InvalidPlace", "InvalidRow", "InvalidSize", "InvalidText", "InvalidWidth", "LeftOver", "NothingToUndo", "TooFew", "Unbalanced", "Unfit", "WouldRun"]
def nm (i : Nat) : Str := nms.getD i "RunError"
def szs : List Int := [12, 11, 11, 11, 12, 10, 12, 11, 12, 10, 11, 11, 12, 8, 13, 6, 10, 5, 8]
def sz (i : Nat) : Int := szs.getD i 0
/-- what the written part says of the classes: RunError at CR, the others at cs 0 to cs 18 -/
structure Txt (K : PySem.W.Frag) (mg : Str → Option Value) (fI CR : Addr) (cs : Nat → Addr) : Prop where
  r : XC K mg fI CR "RunError" "value"
  c : ∀ i, i < 19 → XC K mg fI (cs i) (nm i) "value"
  ee : ∀ i, i < 19 → PySem.W.exmOne K (.ref (cs i)) (.ref CR) = some true
  er : PySem.W.exmOne K (.ref CR) (.ref CR) = some true
  kk : ∀ i j, i < 19 → j < 19 → PySem.W.kitOne K (.ref (cs i)) (.ref (cs j)) = some (decide (i = j))
  kr : ∀ j, j < 19 → PySem.W.kitOne K (.ref CR) (.ref (cs j)) = some false
  kv : ∀ i, i < 19 → PySem.W.kitOne K (.ref (cs i)) (.type "ValueError") = some true
  isi : mg "isinstance" = none
  len : mg "len" = none
  int : mg "int" = none
  range : mg "range" = none
  verr : mg "ValueError" = none
/-- the def __init__ of RunError -/
structure Ini (P : Program) (w : World) (K : PySem.W.Frag) (mg : Str → Option Value) (base : Heap) (fI : Addr) (fdI : FuncData) : Prop where
  ok : FnOk P w K mg base CX0 1 fI fdI ["self", "value"] (spInit K "value")
  bd : Bind1 K fdI "value"
/-! ### the promises -/
/-- way i raises the i-th error: its own dict, new, holds some value -/
def spOne (cs : Nat → Addr) (lo : Nat) : Sp := fun vs H _ E => ∃ i : Nat, lo ≤ i ∧ i < 19 ∧ vs = [.int i] ∧ ∀ (d : Addr) (fs : List (Str × V)) (H' : Hp), Same H H' → H' d = some (.xd fs) → E (.ref (cs i)) (some d) H'
/-- the marks of the error at a: b j tells whether its class is under cs j -/
def spMarks (K : PySem.W.Frag) (cs : Nat → Addr) : Addr → Addr → Addr → Sp := fun a C d vs H Q _ => ∃ (b : Nat → Bool) (fs : List (Str × V)), vs = [.ref a] ∧ ExcC K C ∧ (∀ j, j < 19 → PySem.W.kitOne K (.ref C) (.ref (cs j)) = some (b j)) ∧ H d = some (.xd fs) ∧
  ∀ (H' : Hp) (p : Addr), Same H H' → H' p = some (.lst ((List.range 19).map fun j => V.bl (b j))) → Q (.ref p) H'
def spWay : Sp := fun vs H Q _ => ∃ i : Nat, i < 19 ∧ vs = [.int i, .int 19] ∧ ∀ H', Same H H' → Q (.bl true) H'
def spTrue : Sp := fun vs H Q _ => vs = [] ∧ ∀ H', Same H H' → Q (.bl true) H'
def spLaw (K : PySem.W.Frag) : Sp := fun vs H Q _ => ∃ (a : Addr) (ns : List Int), vs = [.ref a] ∧ SqL K H a (ns.map V.int) ∧ ns.length ≤ 63 ∧ ∀ H', Q (.bl true) H'
theorem ifT {k : Bool} {A B : Prop} (e : k = true) (h : A) : if k = true then A else B := by
  rw [if_pos e]
  exact h
theorem ifF {k : Bool} {A B : Prop} (e : k = false) (h : B) : if k = true then A else B := by
  rw [e]
  exact iteF h
theorem same_new {H : Hp} {p : Addr} {o : HO} (h : H p = none) : Same H (upd H p o) := fun b u e => by
  rw [upd_ne (ne_of_none e h)]
  exact e
section
variable {P : Program} {w : World} {K : PySem.W.Frag} {mg : Str → Option Value} {base : Heap} {fI CR : Addr} {cs : Nat → Addr} {fdI : FuncData}
theorem scI : FnScope ["self", "value"] ["self", "value"] (defScope sInit) := ⟨rfl, rfl, rfl, by decide +kernel, rfl, by decide +kernel, by decide +kernel⟩
theorem ok_init {f : Addr} {fd : FuncData} (F : Fun K "__init__" "RunError.__init__" sInit f fd) : FnOk P w K mg base CX0 1 f fd ["self", "value"] (spInit K "value") := by
  refine F.ok scI (fun vs H Q E h => ?_) (fun cdv A outer s H vs Q E hr h => ?_)
  · obtain ⟨e, C, y, rfl, _⟩ := h
    rfl
  · obtain ⟨e, C, y, rfl, T, no, he, k⟩ := h
    exact ⟨_, pss_one (ps_ost (pv 0) (pv 1)), ⟨_, rfl, _, rfl, e, C, rfl, T, no, .inl ⟨he, k⟩⟩⟩

theorem scMore : FnScope ["way"] ["way"] (defScope sMore) := ⟨rfl, rfl, rfl, by decide +kernel, rfl, by decide +kernel, by decide +kernel⟩
theorem ok_more {f : Addr} {fd : FuncData} (F : Fun K "_law_raised_more" "_law_raised_more" sMore f fd) (T : Txt K mg fI CR cs) (I : Ini P w K mg base fI fdI) : FnOk P w K mg base (L2N.CX P w) 3 f fd ["way"] (spOne cs 12) := by
  refine F.okC scMore (fun vs H Q E h => ?_) (fun cdv A outer s H vs Q E hr h => ?_)
  · obtain ⟨i, _, _, rfl, _⟩ := h
    rfl
  · obtain ⟨i, lo, hi, rfl, k⟩ := h
    have hr2 : Room 2 _ := hr.mono (by decide)
    refine ⟨_, pss_cons (ps_if (pt_cmpR op_eq (pv 0) pe_int (nomark _)) (pss_one (L2N.ps_raise rfl (L2N.takes_of rfl rfl rfl rfl) (pmk1 (T.c 12 (by decide)) I.ok I.bd hr2 rfl (pe_tup (pa_cons pe_str (pa_cons pe_int pa_nil)))))) pss_nil)
      (pss_cons (ps_if (pt_cmpR op_eq (pv 0) pe_int (nomark _)) (pss_one (L2N.ps_raise rfl (L2N.takes_of rfl rfl rfl rfl) (pmk1 (T.c 13 (by decide)) I.ok I.bd hr2 rfl (pe_tup (pa_cons pe_str (pa_cons pe_int pa_nil)))))) pss_nil)
      (pss_cons (ps_if (pt_cmpR op_eq (pv 0) pe_int (nomark _)) (pss_one (L2N.ps_raise rfl (L2N.takes_of rfl rfl rfl rfl) (pmk1 (T.c 14 (by decide)) I.ok I.bd hr2 rfl (pe_tup (pa_cons pe_str (pa_cons pe_int pa_nil)))))) pss_nil)
      (pss_cons (ps_if (pt_cmpR op_eq (pv 0) pe_int (nomark _)) (pss_one (L2N.ps_raise rfl (L2N.takes_of rfl rfl rfl rfl) (pmk1 (T.c 15 (by decide)) I.ok I.bd hr2 rfl (pe_tup (pa_cons pe_str (pa_cons pe_int pa_nil)))))) pss_nil)
      (pss_cons (ps_if (pt_cmpR op_eq (pv 0) pe_int (nomark _)) (pss_one (L2N.ps_raise rfl (L2N.takes_of rfl rfl rfl rfl) (pmk1 (T.c 16 (by decide)) I.ok I.bd hr2 rfl (pe_tup (pa_cons pe_str (pa_cons pe_int pa_nil)))))) pss_nil)
      (pss_cons (ps_if (pt_cmpR op_eq (pv 0) pe_int (nomark _)) (pss_one (L2N.ps_raise rfl (L2N.takes_of rfl rfl rfl rfl) (pmk1 (T.c 17 (by decide)) I.ok I.bd hr2 rfl (pe_tup (pa_cons pe_str (pa_cons pe_int pa_nil)))))) pss_nil)
      (pss_one (ps_if (pt_cmpR op_eq (pv 0) pe_int (nomark _)) (pss_one (L2N.ps_raise rfl (L2N.takes_of rfl rfl rfl rfl) (pmk1 (T.c 18 (by decide)) I.ok I.bd hr2 rfl (pe_tup (pa_cons pe_str (pa_cons pe_int pa_nil)))))) pss_nil))))))), ?_⟩
    have out : ∀ (t d : Addr) (x : HO) (fs : List (Str × V)), H t = none → upd H t x d = none → E (.ref (cs i)) (some d) (upd (upd H t x) d (.xd fs)) := fun t d x fs ht hd =>
      k d fs _ ((same_new ht).trans (same_new hd)) upd_same
    by_cases e12 : i = 12
    · subst e12
      refine ⟨_, rfl, rfl, _, rfl, ?_⟩
      refine ifT rfl ?_
      exact ⟨by show 2 ≤ sizeLine; decide, fun t ht d hd => out t d _ _ ht hd⟩
    refine ⟨_, rfl, rfl, _, rfl, ?_⟩
    refine ifF (decide_eq_false (fun q => e12 (by cases q; rfl))) ?_
    by_cases e13 : i = 13
    · subst e13
      refine ⟨_, rfl, rfl, _, rfl, ?_⟩
      refine ifT rfl ?_
      exact ⟨by show 2 ≤ sizeLine; decide, fun t ht d hd => out t d _ _ ht hd⟩
    refine ⟨_, rfl, rfl, _, rfl, ?_⟩
    refine ifF (decide_eq_false (fun q => e13 (by cases q; rfl))) ?_
    by_cases e14 : i = 14
    · subst e14
      refine ⟨_, rfl, rfl, _, rfl, ?_⟩
      refine ifT rfl ?_
      exact ⟨by show 2 ≤ sizeLine; decide, fun t ht d hd => out t d _ _ ht hd⟩
    refine ⟨_, rfl, rfl, _, rfl, ?_⟩
    refine ifF (decide_eq_false (fun q => e14 (by cases q; rfl))) ?_
    by_cases e15 : i = 15
    · subst e15
      refine ⟨_, rfl, rfl, _, rfl, ?_⟩
      refine ifT rfl ?_
      exact ⟨by show 2 ≤ sizeLine; decide, fun t ht d hd => out t d _ _ ht hd⟩
    refine ⟨_, rfl, rfl, _, rfl, ?_⟩
    refine ifF (decide_eq_false (fun q => e15 (by cases q; rfl))) ?_
    by_cases e16 : i = 16
    · subst e16
      refine ⟨_, rfl, rfl, _, rfl, ?_⟩
      refine ifT rfl ?_
      exact ⟨by show 2 ≤ sizeLine; decide, fun t ht d hd => out t d _ _ ht hd⟩
    refine ⟨_, rfl, rfl, _, rfl, ?_⟩
    refine ifF (decide_eq_false (fun q => e16 (by cases q; rfl))) ?_
    by_cases e17 : i = 17
    · subst e17
      refine ⟨_, rfl, rfl, _, rfl, ?_⟩
      refine ifT rfl ?_
      exact ⟨by show 2 ≤ sizeLine; decide, fun t ht d hd => out t d _ _ ht hd⟩
    refine ⟨_, rfl, rfl, _, rfl, ?_⟩
    refine ifF (decide_eq_false (fun q => e17 (by cases q; rfl))) ?_
    by_cases e18 : i = 18
    · subst e18
      refine ⟨_, rfl, rfl, _, rfl, ?_⟩
      refine ifT rfl ?_
      exact ⟨by show 2 ≤ sizeLine; decide, fun t ht d hd => out t d _ _ ht hd⟩
    refine ⟨_, rfl, rfl, _, rfl, ?_⟩
    refine ifF (decide_eq_false (fun q => e18 (by cases q; rfl))) ?_
    omega
theorem scOne : FnScope ["way"] ["way"] (defScope sOne) := ⟨rfl, rfl, rfl, by decide +kernel, rfl, by decide +kernel, by decide +kernel⟩
theorem ok_one {f : Addr} {fd : FuncData} (F : Fun K "_law_raised_one" "_law_raised_one" sOne f fd) (T : Txt K mg fI CR cs) (I : Ini P w K mg base fI fdI) {fM : Addr} {fdM : FuncData} (GM : FnOk P w K mg base (L2N.CX P w) 3 fM fdM ["way"] (spOne cs 12)) (gM : mg "_law_raised_more" = some (.ref fM)) (kM : PySem.W.keepIn K (.ref fM) = true) (bM : Binds K fdM ["way"] []) : FnOk P w K mg base (L2N.CX P w) 4 f fd ["way"] (spOne cs 0) := by
  refine F.okC scOne (fun vs H Q E h => ?_) (fun cdv A outer s H vs Q E hr h => ?_)
  · obtain ⟨i, _, _, rfl, _⟩ := h
    rfl
  · obtain ⟨i, lo, hi, rfl, k⟩ := h
    have hr2 : Room 2 _ := hr.mono (by decide)
    refine ⟨_, pss_cons (ps_if (pt_cmpR op_eq (pv 0) pe_int (nomark _)) (pss_one (L2N.ps_raise rfl (L2N.takes_of rfl rfl rfl rfl) (pmk1 (T.c 0 (by decide)) I.ok I.bd hr2 rfl (pe_tup (pa_cons pe_str (pa_cons pe_int pa_nil)))))) pss_nil)
      (pss_cons (ps_if (pt_cmpR op_eq (pv 0) pe_int (nomark _)) (pss_one (L2N.ps_raise rfl (L2N.takes_of rfl rfl rfl rfl) (pmk1 (T.c 1 (by decide)) I.ok I.bd hr2 rfl (pe_tup (pa_cons pe_str (pa_cons pe_int pa_nil)))))) pss_nil)
      (pss_cons (ps_if (pt_cmpR op_eq (pv 0) pe_int (nomark _)) (pss_one (L2N.ps_raise rfl (L2N.takes_of rfl rfl rfl rfl) (pmk1 (T.c 2 (by decide)) I.ok I.bd hr2 rfl (pe_tup (pa_cons pe_str (pa_cons pe_int pa_nil)))))) pss_nil)
      (pss_cons (ps_if (pt_cmpR op_eq (pv 0) pe_int (nomark _)) (pss_one (L2N.ps_raise rfl (L2N.takes_of rfl rfl rfl rfl) (pmk1 (T.c 3 (by decide)) I.ok I.bd hr2 rfl (pe_tup (pa_cons pe_str (pa_cons pe_int pa_nil)))))) pss_nil)
      (pss_cons (ps_if (pt_cmpR op_eq (pv 0) pe_int (nomark _)) (pss_one (L2N.ps_raise rfl (L2N.takes_of rfl rfl rfl rfl) (pmk1 (T.c 4 (by decide)) I.ok I.bd hr2 rfl (pe_tup (pa_cons pe_str (pa_cons pe_int pa_nil)))))) pss_nil)
      (pss_cons (ps_if (pt_cmpR op_eq (pv 0) pe_int (nomark _)) (pss_one (L2N.ps_raise rfl (L2N.takes_of rfl rfl rfl rfl) (pmk1 (T.c 5 (by decide)) I.ok I.bd hr2 rfl (pe_tup (pa_cons pe_str (pa_cons pe_int pa_nil)))))) pss_nil)
      (pss_cons (ps_if (pt_cmpR op_eq (pv 0) pe_int (nomark _)) (pss_one (L2N.ps_raise rfl (L2N.takes_of rfl rfl rfl rfl) (pmk1 (T.c 6 (by decide)) I.ok I.bd hr2 rfl (pe_tup (pa_cons pe_str (pa_cons pe_int pa_nil)))))) pss_nil)
      (pss_cons (ps_if (pt_cmpR op_eq (pv 0) pe_int (nomark _)) (pss_one (L2N.ps_raise rfl (L2N.takes_of rfl rfl rfl rfl) (pmk1 (T.c 7 (by decide)) I.ok I.bd hr2 rfl (pe_tup (pa_cons pe_str (pa_cons pe_int pa_nil)))))) pss_nil)
      (pss_cons (ps_if (pt_cmpR op_eq (pv 0) pe_int (nomark _)) (pss_one (L2N.ps_raise rfl (L2N.takes_of rfl rfl rfl rfl) (pmk1 (T.c 8 (by decide)) I.ok I.bd hr2 rfl (pe_tup (pa_cons pe_str (pa_cons pe_int pa_nil)))))) pss_nil)
      (pss_cons (ps_if (pt_cmpR op_eq (pv 0) pe_int (nomark _)) (pss_one (L2N.ps_raise rfl (L2N.takes_of rfl rfl rfl rfl) (pmk1 (T.c 9 (by decide)) I.ok I.bd hr2 rfl (pe_tup (pa_cons pe_str (pa_cons pe_int pa_nil)))))) pss_nil)
      (pss_cons (ps_if (pt_cmpR op_eq (pv 0) pe_int (nomark _)) (pss_one (L2N.ps_raise rfl (L2N.takes_of rfl rfl rfl rfl) (pmk1 (T.c 10 (by decide)) I.ok I.bd hr2 rfl (pe_tup (pa_cons pe_str (pa_cons pe_int pa_nil)))))) pss_nil)
      (pss_cons (ps_if (pt_cmpR op_eq (pv 0) pe_int (nomark _)) (pss_one (L2N.ps_raise rfl (L2N.takes_of rfl rfl rfl rfl) (pmk1 (T.c 11 (by decide)) I.ok I.bd hr2 rfl (pe_tup (pa_cons pe_str (pa_cons pe_int pa_nil)))))) pss_nil)
      (pss_one (ps_expr (pe_call GM (hr.mono (by decide)) rfl gM kM bM .nil (L2N.passes_call (L2N.takes_of rfl rfl rfl rfl) (fun _ _ _ _ z => z)) (pa_cons (pv 0) pa_nil))))))))))))))), ?_⟩
    have out : ∀ (t d : Addr) (x : HO) (fs : List (Str × V)), H t = none → upd H t x d = none → E (.ref (cs i)) (some d) (upd (upd H t x) d (.xd fs)) := fun t d x fs ht hd =>
      k d fs _ ((same_new ht).trans (same_new hd)) upd_same
    by_cases e0 : i = 0
    · subst e0
      refine ⟨_, rfl, rfl, _, rfl, ?_⟩
      refine ifT rfl ?_
      exact ⟨by show 2 ≤ sizeLine; decide, fun t ht d hd => out t d _ _ ht hd⟩
    refine ⟨_, rfl, rfl, _, rfl, ?_⟩
    refine ifF (decide_eq_false (fun q => e0 (by cases q; rfl))) ?_
    by_cases e1 : i = 1
    · subst e1
      refine ⟨_, rfl, rfl, _, rfl, ?_⟩
      refine ifT rfl ?_
      exact ⟨by show 2 ≤ sizeLine; decide, fun t ht d hd => out t d _ _ ht hd⟩
    refine ⟨_, rfl, rfl, _, rfl, ?_⟩
    refine ifF (decide_eq_false (fun q => e1 (by cases q; rfl))) ?_
    by_cases e2 : i = 2
    · subst e2
      refine ⟨_, rfl, rfl, _, rfl, ?_⟩
      refine ifT rfl ?_
      exact ⟨by show 2 ≤ sizeLine; decide, fun t ht d hd => out t d _ _ ht hd⟩
    refine ⟨_, rfl, rfl, _, rfl, ?_⟩
    refine ifF (decide_eq_false (fun q => e2 (by cases q; rfl))) ?_
    by_cases e3 : i = 3
    · subst e3
      refine ⟨_, rfl, rfl, _, rfl, ?_⟩
      refine ifT rfl ?_
      exact ⟨by show 2 ≤ sizeLine; decide, fun t ht d hd => out t d _ _ ht hd⟩
    refine ⟨_, rfl, rfl, _, rfl, ?_⟩
    refine ifF (decide_eq_false (fun q => e3 (by cases q; rfl))) ?_
    by_cases e4 : i = 4
    · subst e4
      refine ⟨_, rfl, rfl, _, rfl, ?_⟩
      refine ifT rfl ?_
      exact ⟨by show 2 ≤ sizeLine; decide, fun t ht d hd => out t d _ _ ht hd⟩
    refine ⟨_, rfl, rfl, _, rfl, ?_⟩
    refine ifF (decide_eq_false (fun q => e4 (by cases q; rfl))) ?_
    by_cases e5 : i = 5
    · subst e5
      refine ⟨_, rfl, rfl, _, rfl, ?_⟩
      refine ifT rfl ?_
      exact ⟨by show 2 ≤ sizeLine; decide, fun t ht d hd => out t d _ _ ht hd⟩
    refine ⟨_, rfl, rfl, _, rfl, ?_⟩
    refine ifF (decide_eq_false (fun q => e5 (by cases q; rfl))) ?_
    by_cases e6 : i = 6
    · subst e6
      refine ⟨_, rfl, rfl, _, rfl, ?_⟩
      refine ifT rfl ?_
      exact ⟨by show 2 ≤ sizeLine; decide, fun t ht d hd => out t d _ _ ht hd⟩
    refine ⟨_, rfl, rfl, _, rfl, ?_⟩
    refine ifF (decide_eq_false (fun q => e6 (by cases q; rfl))) ?_
    by_cases e7 : i = 7
    · subst e7
      refine ⟨_, rfl, rfl, _, rfl, ?_⟩
      refine ifT rfl ?_
      exact ⟨by show 2 ≤ sizeLine; decide, fun t ht d hd => out t d _ _ ht hd⟩
    refine ⟨_, rfl, rfl, _, rfl, ?_⟩
    refine ifF (decide_eq_false (fun q => e7 (by cases q; rfl))) ?_
    by_cases e8 : i = 8
    · subst e8
      refine ⟨_, rfl, rfl, _, rfl, ?_⟩
      refine ifT rfl ?_
      exact ⟨by show 2 ≤ sizeLine; decide, fun t ht d hd => out t d _ _ ht hd⟩
    refine ⟨_, rfl, rfl, _, rfl, ?_⟩
    refine ifF (decide_eq_false (fun q => e8 (by cases q; rfl))) ?_
    by_cases e9 : i = 9
    · subst e9
      refine ⟨_, rfl, rfl, _, rfl, ?_⟩
      refine ifT rfl ?_
      exact ⟨by show 2 ≤ sizeLine; decide, fun t ht d hd => out t d _ _ ht hd⟩
    refine ⟨_, rfl, rfl, _, rfl, ?_⟩
    refine ifF (decide_eq_false (fun q => e9 (by cases q; rfl))) ?_
    by_cases e10 : i = 10
    · subst e10
      refine ⟨_, rfl, rfl, _, rfl, ?_⟩
      refine ifT rfl ?_
      exact ⟨by show 2 ≤ sizeLine; decide, fun t ht d hd => out t d _ _ ht hd⟩
    refine ⟨_, rfl, rfl, _, rfl, ?_⟩
    refine ifF (decide_eq_false (fun q => e10 (by cases q; rfl))) ?_
    by_cases e11 : i = 11
    · subst e11
      refine ⟨_, rfl, rfl, _, rfl, ?_⟩
      refine ifT rfl ?_
      exact ⟨by show 2 ≤ sizeLine; decide, fun t ht d hd => out t d _ _ ht hd⟩
    refine ⟨_, rfl, rfl, _, rfl, ?_⟩
    refine ifF (decide_eq_false (fun q => e11 (by cases q; rfl))) ?_
    exact ⟨_, rfl, i, by omega, hi, rfl, k⟩
theorem scMk : FnScope ["e", "marks"] ["e"] (defScope sMarks) := ⟨rfl, rfl, rfl, by decide +kernel, rfl, by decide +kernel, by decide +kernel⟩
theorem ok_marks {f : Addr} {fd : FuncData} (F : Fun K "_law_marks" "_law_marks" sMarks f fd) (T : Txt K mg fI CR cs) : FnE P w K mg base 1 f fd ["e"] (spMarks K cs) := by
  refine F.okE scMk (fun a C d vs H Q E h => ?_) (fun cdv A outer s H vs Q E p C d ep hr h => ?_)
  · obtain ⟨b, fs, rfl, _⟩ := h
    rfl
  · obtain ⟨b, fs, rfl, ec, hk, hd, k⟩ := h
    refine ⟨_, pss_cons (ps_set (i := 1) scMk.nd rfl (Or.inl rfl) (pe_lst (pa_cons (pe_callB (call_isP (p := p) (List.mem_singleton.mpr rfl) ep) (by rfl) T.isi (by decide +kernel) (pa_cons (pv 0) (pa_cons (pe_glob rfl (T.c 0 (by decide)).gC (v := .ref (cs 0)) rfl) pa_nil))) (pa_cons (pe_callB (call_isP (p := p) (List.mem_singleton.mpr rfl) ep) (by rfl) T.isi (by decide +kernel) (pa_cons (pv 0) (pa_cons (pe_glob rfl (T.c 1 (by decide)).gC (v := .ref (cs 1)) rfl) pa_nil))) (pa_cons (pe_callB (call_isP (p := p) (List.mem_singleton.mpr rfl) ep) (by rfl) T.isi (by decide +kernel) (pa_cons (pv 0) (pa_cons (pe_glob rfl (T.c 2 (by decide)).gC (v := .ref (cs 2)) rfl) pa_nil))) pa_nil)))))
      (pss_cons (ps_set (i := 1) scMk.nd rfl (Or.inl rfl) (pe_op op_cat (pv 1) (pe_lst (pa_cons (pe_callB (call_isP (p := p) (List.mem_singleton.mpr rfl) ep) (by rfl) T.isi (by decide +kernel) (pa_cons (pv 0) (pa_cons (pe_glob rfl (T.c 3 (by decide)).gC (v := .ref (cs 3)) rfl) pa_nil))) (pa_cons (pe_callB (call_isP (p := p) (List.mem_singleton.mpr rfl) ep) (by rfl) T.isi (by decide +kernel) (pa_cons (pv 0) (pa_cons (pe_glob rfl (T.c 4 (by decide)).gC (v := .ref (cs 4)) rfl) pa_nil))) (pa_cons (pe_callB (call_isP (p := p) (List.mem_singleton.mpr rfl) ep) (by rfl) T.isi (by decide +kernel) (pa_cons (pv 0) (pa_cons (pe_glob rfl (T.c 5 (by decide)).gC (v := .ref (cs 5)) rfl) pa_nil))) pa_nil))))))
      (pss_cons (ps_set (i := 1) scMk.nd rfl (Or.inl rfl) (pe_op op_cat (pv 1) (pe_lst (pa_cons (pe_callB (call_isP (p := p) (List.mem_singleton.mpr rfl) ep) (by rfl) T.isi (by decide +kernel) (pa_cons (pv 0) (pa_cons (pe_glob rfl (T.c 6 (by decide)).gC (v := .ref (cs 6)) rfl) pa_nil))) (pa_cons (pe_callB (call_isP (p := p) (List.mem_singleton.mpr rfl) ep) (by rfl) T.isi (by decide +kernel) (pa_cons (pv 0) (pa_cons (pe_glob rfl (T.c 7 (by decide)).gC (v := .ref (cs 7)) rfl) pa_nil))) (pa_cons (pe_callB (call_isP (p := p) (List.mem_singleton.mpr rfl) ep) (by rfl) T.isi (by decide +kernel) (pa_cons (pv 0) (pa_cons (pe_glob rfl (T.c 8 (by decide)).gC (v := .ref (cs 8)) rfl) pa_nil))) pa_nil))))))
      (pss_cons (ps_set (i := 1) scMk.nd rfl (Or.inl rfl) (pe_op op_cat (pv 1) (pe_lst (pa_cons (pe_callB (call_isP (p := p) (List.mem_singleton.mpr rfl) ep) (by rfl) T.isi (by decide +kernel) (pa_cons (pv 0) (pa_cons (pe_glob rfl (T.c 9 (by decide)).gC (v := .ref (cs 9)) rfl) pa_nil))) (pa_cons (pe_callB (call_isP (p := p) (List.mem_singleton.mpr rfl) ep) (by rfl) T.isi (by decide +kernel) (pa_cons (pv 0) (pa_cons (pe_glob rfl (T.c 10 (by decide)).gC (v := .ref (cs 10)) rfl) pa_nil))) (pa_cons (pe_callB (call_isP (p := p) (List.mem_singleton.mpr rfl) ep) (by rfl) T.isi (by decide +kernel) (pa_cons (pv 0) (pa_cons (pe_glob rfl (T.c 11 (by decide)).gC (v := .ref (cs 11)) rfl) pa_nil))) pa_nil))))))
      (pss_cons (ps_set (i := 1) scMk.nd rfl (Or.inl rfl) (pe_op op_cat (pv 1) (pe_lst (pa_cons (pe_callB (call_isP (p := p) (List.mem_singleton.mpr rfl) ep) (by rfl) T.isi (by decide +kernel) (pa_cons (pv 0) (pa_cons (pe_glob rfl (T.c 12 (by decide)).gC (v := .ref (cs 12)) rfl) pa_nil))) (pa_cons (pe_callB (call_isP (p := p) (List.mem_singleton.mpr rfl) ep) (by rfl) T.isi (by decide +kernel) (pa_cons (pv 0) (pa_cons (pe_glob rfl (T.c 13 (by decide)).gC (v := .ref (cs 13)) rfl) pa_nil))) (pa_cons (pe_callB (call_isP (p := p) (List.mem_singleton.mpr rfl) ep) (by rfl) T.isi (by decide +kernel) (pa_cons (pv 0) (pa_cons (pe_glob rfl (T.c 14 (by decide)).gC (v := .ref (cs 14)) rfl) pa_nil))) pa_nil))))))
      (pss_cons (ps_set (i := 1) scMk.nd rfl (Or.inl rfl) (pe_op op_cat (pv 1) (pe_lst (pa_cons (pe_callB (call_isP (p := p) (List.mem_singleton.mpr rfl) ep) (by rfl) T.isi (by decide +kernel) (pa_cons (pv 0) (pa_cons (pe_glob rfl (T.c 15 (by decide)).gC (v := .ref (cs 15)) rfl) pa_nil))) (pa_cons (pe_callB (call_isP (p := p) (List.mem_singleton.mpr rfl) ep) (by rfl) T.isi (by decide +kernel) (pa_cons (pv 0) (pa_cons (pe_glob rfl (T.c 16 (by decide)).gC (v := .ref (cs 16)) rfl) pa_nil))) (pa_cons (pe_callB (call_isP (p := p) (List.mem_singleton.mpr rfl) ep) (by rfl) T.isi (by decide +kernel) (pa_cons (pv 0) (pa_cons (pe_glob rfl (T.c 17 (by decide)).gC (v := .ref (cs 17)) rfl) pa_nil))) pa_nil))))))
      (pss_cons (ps_set (i := 1) scMk.nd rfl (Or.inl rfl) (pe_op op_cat (pv 1) (pe_lst (pa_cons (pe_callB (call_isP (p := p) (List.mem_singleton.mpr rfl) ep) (by rfl) T.isi (by decide +kernel) (pa_cons (pv 0) (pa_cons (pe_glob rfl (T.c 18 (by decide)).gC (v := .ref (cs 18)) rfl) pa_nil))) pa_nil))))
      (pss_one (ps_ret (pv 1))))))))), ?_⟩
    refine ⟨_, rfl, ec, _, _, _, _, rfl, fun _ r => r, hk 0 (by decide), hd, _, rfl, ec, _, _, _, _, rfl, fun _ r => r, hk 1 (by decide), hd, _, rfl, ec, _, _, _, _, rfl, fun _ r => r, hk 2 (by decide), hd, by show 3 ≤ sizeLine; decide, fun q0 f0 => ?_⟩
    have s1 : Same H (upd H q0 (.lst [V.bl (b 0), V.bl (b 1), V.bl (b 2)])) := same_new f0
    have hd1 := s1 _ _ hd
    have l1 : upd H q0 (.lst [V.bl (b 0), V.bl (b 1), V.bl (b 2)]) q0 = some (.lst [V.bl (b 0), V.bl (b 1), V.bl (b 2)]) := upd_same
    generalize upd H q0 (.lst [V.bl (b 0), V.bl (b 1), V.bl (b 2)]) = H1 at hd1 s1 l1 ⊢
    refine ⟨_, rfl, _, rfl, ec, _, _, _, _, rfl, fun _ r => r, hk 3 (by decide), hd1, _, rfl, ec, _, _, _, _, rfl, fun _ r => r, hk 4 (by decide), hd1, _, rfl, ec, _, _, _, _, rfl, fun _ r => r, hk 5 (by decide), hd1, by show 3 ≤ sizeLine; decide, fun q1 f1 => ?_⟩
    have u1 : Same H1 (upd H1 q1 (.lst [V.bl (b 3), V.bl (b 4), V.bl (b 5)])) := same_new f1
    have lq1 := u1 _ _ l1
    refine ⟨_, _, _, _, rfl, rfl, lq1, upd_same, by show 6 ≤ sizeLine; decide, fun r1 g1 => ?_⟩
    have t1 : Same H1 (upd (upd H1 q1 (.lst [V.bl (b 3), V.bl (b 4), V.bl (b 5)])) r1 (.lst ([V.bl (b 0), V.bl (b 1), V.bl (b 2)] ++ [V.bl (b 3), V.bl (b 4), V.bl (b 5)]))) := u1.trans (same_new g1)
    have hd2 := t1 _ _ hd1
    have s2 := s1.trans t1
    have l2 : upd (upd H1 q1 (.lst [V.bl (b 3), V.bl (b 4), V.bl (b 5)])) r1 (.lst ([V.bl (b 0), V.bl (b 1), V.bl (b 2)] ++ [V.bl (b 3), V.bl (b 4), V.bl (b 5)])) r1 = some (.lst ([V.bl (b 0), V.bl (b 1), V.bl (b 2)] ++ [V.bl (b 3), V.bl (b 4), V.bl (b 5)])) := upd_same
    generalize upd (upd H1 q1 (.lst [V.bl (b 3), V.bl (b 4), V.bl (b 5)])) r1 (.lst ([V.bl (b 0), V.bl (b 1), V.bl (b 2)] ++ [V.bl (b 3), V.bl (b 4), V.bl (b 5)])) = H2 at hd2 s2 l2 ⊢
    refine ⟨_, rfl, _, rfl, ec, _, _, _, _, rfl, fun _ r => r, hk 6 (by decide), hd2, _, rfl, ec, _, _, _, _, rfl, fun _ r => r, hk 7 (by decide), hd2, _, rfl, ec, _, _, _, _, rfl, fun _ r => r, hk 8 (by decide), hd2, by show 3 ≤ sizeLine; decide, fun q2 f2 => ?_⟩
    have u2 : Same H2 (upd H2 q2 (.lst [V.bl (b 6), V.bl (b 7), V.bl (b 8)])) := same_new f2
    have lq2 := u2 _ _ l2
    refine ⟨_, _, _, _, rfl, rfl, lq2, upd_same, by show 9 ≤ sizeLine; decide, fun r2 g2 => ?_⟩
    have t2 : Same H2 (upd (upd H2 q2 (.lst [V.bl (b 6), V.bl (b 7), V.bl (b 8)])) r2 (.lst (([V.bl (b 0), V.bl (b 1), V.bl (b 2)] ++ [V.bl (b 3), V.bl (b 4), V.bl (b 5)]) ++ [V.bl (b 6), V.bl (b 7), V.bl (b 8)]))) := u2.trans (same_new g2)
    have hd3 := t2 _ _ hd2
    have s3 := s2.trans t2
    have l3 : upd (upd H2 q2 (.lst [V.bl (b 6), V.bl (b 7), V.bl (b 8)])) r2 (.lst (([V.bl (b 0), V.bl (b 1), V.bl (b 2)] ++ [V.bl (b 3), V.bl (b 4), V.bl (b 5)]) ++ [V.bl (b 6), V.bl (b 7), V.bl (b 8)])) r2 = some (.lst (([V.bl (b 0), V.bl (b 1), V.bl (b 2)] ++ [V.bl (b 3), V.bl (b 4), V.bl (b 5)]) ++ [V.bl (b 6), V.bl (b 7), V.bl (b 8)])) := upd_same
    generalize upd (upd H2 q2 (.lst [V.bl (b 6), V.bl (b 7), V.bl (b 8)])) r2 (.lst (([V.bl (b 0), V.bl (b 1), V.bl (b 2)] ++ [V.bl (b 3), V.bl (b 4), V.bl (b 5)]) ++ [V.bl (b 6), V.bl (b 7), V.bl (b 8)])) = H3 at hd3 s3 l3 ⊢
    refine ⟨_, rfl, _, rfl, ec, _, _, _, _, rfl, fun _ r => r, hk 9 (by decide), hd3, _, rfl, ec, _, _, _, _, rfl, fun _ r => r, hk 10 (by decide), hd3, _, rfl, ec, _, _, _, _, rfl, fun _ r => r, hk 11 (by decide), hd3, by show 3 ≤ sizeLine; decide, fun q3 f3 => ?_⟩
    have u3 : Same H3 (upd H3 q3 (.lst [V.bl (b 9), V.bl (b 10), V.bl (b 11)])) := same_new f3
    have lq3 := u3 _ _ l3
    refine ⟨_, _, _, _, rfl, rfl, lq3, upd_same, by show 12 ≤ sizeLine; decide, fun r3 g3 => ?_⟩
    have t3 : Same H3 (upd (upd H3 q3 (.lst [V.bl (b 9), V.bl (b 10), V.bl (b 11)])) r3 (.lst ((([V.bl (b 0), V.bl (b 1), V.bl (b 2)] ++ [V.bl (b 3), V.bl (b 4), V.bl (b 5)]) ++ [V.bl (b 6), V.bl (b 7), V.bl (b 8)]) ++ [V.bl (b 9), V.bl (b 10), V.bl (b 11)]))) := u3.trans (same_new g3)
    have hd4 := t3 _ _ hd3
    have s4 := s3.trans t3
    have l4 : upd (upd H3 q3 (.lst [V.bl (b 9), V.bl (b 10), V.bl (b 11)])) r3 (.lst ((([V.bl (b 0), V.bl (b 1), V.bl (b 2)] ++ [V.bl (b 3), V.bl (b 4), V.bl (b 5)]) ++ [V.bl (b 6), V.bl (b 7), V.bl (b 8)]) ++ [V.bl (b 9), V.bl (b 10), V.bl (b 11)])) r3 = some (.lst ((([V.bl (b 0), V.bl (b 1), V.bl (b 2)] ++ [V.bl (b 3), V.bl (b 4), V.bl (b 5)]) ++ [V.bl (b 6), V.bl (b 7), V.bl (b 8)]) ++ [V.bl (b 9), V.bl (b 10), V.bl (b 11)])) := upd_same
    generalize upd (upd H3 q3 (.lst [V.bl (b 9), V.bl (b 10), V.bl (b 11)])) r3 (.lst ((([V.bl (b 0), V.bl (b 1), V.bl (b 2)] ++ [V.bl (b 3), V.bl (b 4), V.bl (b 5)]) ++ [V.bl (b 6), V.bl (b 7), V.bl (b 8)]) ++ [V.bl (b 9), V.bl (b 10), V.bl (b 11)])) = H4 at hd4 s4 l4 ⊢
    refine ⟨_, rfl, _, rfl, ec, _, _, _, _, rfl, fun _ r => r, hk 12 (by decide), hd4, _, rfl, ec, _, _, _, _, rfl, fun _ r => r, hk 13 (by decide), hd4, _, rfl, ec, _, _, _, _, rfl, fun _ r => r, hk 14 (by decide), hd4, by show 3 ≤ sizeLine; decide, fun q4 f4 => ?_⟩
    have u4 : Same H4 (upd H4 q4 (.lst [V.bl (b 12), V.bl (b 13), V.bl (b 14)])) := same_new f4
    have lq4 := u4 _ _ l4
    refine ⟨_, _, _, _, rfl, rfl, lq4, upd_same, by show 15 ≤ sizeLine; decide, fun r4 g4 => ?_⟩
    have t4 : Same H4 (upd (upd H4 q4 (.lst [V.bl (b 12), V.bl (b 13), V.bl (b 14)])) r4 (.lst (((([V.bl (b 0), V.bl (b 1), V.bl (b 2)] ++ [V.bl (b 3), V.bl (b 4), V.bl (b 5)]) ++ [V.bl (b 6), V.bl (b 7), V.bl (b 8)]) ++ [V.bl (b 9), V.bl (b 10), V.bl (b 11)]) ++ [V.bl (b 12), V.bl (b 13), V.bl (b 14)]))) := u4.trans (same_new g4)
    have hd5 := t4 _ _ hd4
    have s5 := s4.trans t4
    have l5 : upd (upd H4 q4 (.lst [V.bl (b 12), V.bl (b 13), V.bl (b 14)])) r4 (.lst (((([V.bl (b 0), V.bl (b 1), V.bl (b 2)] ++ [V.bl (b 3), V.bl (b 4), V.bl (b 5)]) ++ [V.bl (b 6), V.bl (b 7), V.bl (b 8)]) ++ [V.bl (b 9), V.bl (b 10), V.bl (b 11)]) ++ [V.bl (b 12), V.bl (b 13), V.bl (b 14)])) r4 = some (.lst (((([V.bl (b 0), V.bl (b 1), V.bl (b 2)] ++ [V.bl (b 3), V.bl (b 4), V.bl (b 5)]) ++ [V.bl (b 6), V.bl (b 7), V.bl (b 8)]) ++ [V.bl (b 9), V.bl (b 10), V.bl (b 11)]) ++ [V.bl (b 12), V.bl (b 13), V.bl (b 14)])) := upd_same
    generalize upd (upd H4 q4 (.lst [V.bl (b 12), V.bl (b 13), V.bl (b 14)])) r4 (.lst (((([V.bl (b 0), V.bl (b 1), V.bl (b 2)] ++ [V.bl (b 3), V.bl (b 4), V.bl (b 5)]) ++ [V.bl (b 6), V.bl (b 7), V.bl (b 8)]) ++ [V.bl (b 9), V.bl (b 10), V.bl (b 11)]) ++ [V.bl (b 12), V.bl (b 13), V.bl (b 14)])) = H5 at hd5 s5 l5 ⊢
    refine ⟨_, rfl, _, rfl, ec, _, _, _, _, rfl, fun _ r => r, hk 15 (by decide), hd5, _, rfl, ec, _, _, _, _, rfl, fun _ r => r, hk 16 (by decide), hd5, _, rfl, ec, _, _, _, _, rfl, fun _ r => r, hk 17 (by decide), hd5, by show 3 ≤ sizeLine; decide, fun q5 f5 => ?_⟩
    have u5 : Same H5 (upd H5 q5 (.lst [V.bl (b 15), V.bl (b 16), V.bl (b 17)])) := same_new f5
    have lq5 := u5 _ _ l5
    refine ⟨_, _, _, _, rfl, rfl, lq5, upd_same, by show 18 ≤ sizeLine; decide, fun r5 g5 => ?_⟩
    have t5 : Same H5 (upd (upd H5 q5 (.lst [V.bl (b 15), V.bl (b 16), V.bl (b 17)])) r5 (.lst ((((([V.bl (b 0), V.bl (b 1), V.bl (b 2)] ++ [V.bl (b 3), V.bl (b 4), V.bl (b 5)]) ++ [V.bl (b 6), V.bl (b 7), V.bl (b 8)]) ++ [V.bl (b 9), V.bl (b 10), V.bl (b 11)]) ++ [V.bl (b 12), V.bl (b 13), V.bl (b 14)]) ++ [V.bl (b 15), V.bl (b 16), V.bl (b 17)]))) := u5.trans (same_new g5)
    have hd6 := t5 _ _ hd5
    have s6 := s5.trans t5
    have l6 : upd (upd H5 q5 (.lst [V.bl (b 15), V.bl (b 16), V.bl (b 17)])) r5 (.lst ((((([V.bl (b 0), V.bl (b 1), V.bl (b 2)] ++ [V.bl (b 3), V.bl (b 4), V.bl (b 5)]) ++ [V.bl (b 6), V.bl (b 7), V.bl (b 8)]) ++ [V.bl (b 9), V.bl (b 10), V.bl (b 11)]) ++ [V.bl (b 12), V.bl (b 13), V.bl (b 14)]) ++ [V.bl (b 15), V.bl (b 16), V.bl (b 17)])) r5 = some (.lst ((((([V.bl (b 0), V.bl (b 1), V.bl (b 2)] ++ [V.bl (b 3), V.bl (b 4), V.bl (b 5)]) ++ [V.bl (b 6), V.bl (b 7), V.bl (b 8)]) ++ [V.bl (b 9), V.bl (b 10), V.bl (b 11)]) ++ [V.bl (b 12), V.bl (b 13), V.bl (b 14)]) ++ [V.bl (b 15), V.bl (b 16), V.bl (b 17)])) := upd_same
    generalize upd (upd H5 q5 (.lst [V.bl (b 15), V.bl (b 16), V.bl (b 17)])) r5 (.lst ((((([V.bl (b 0), V.bl (b 1), V.bl (b 2)] ++ [V.bl (b 3), V.bl (b 4), V.bl (b 5)]) ++ [V.bl (b 6), V.bl (b 7), V.bl (b 8)]) ++ [V.bl (b 9), V.bl (b 10), V.bl (b 11)]) ++ [V.bl (b 12), V.bl (b 13), V.bl (b 14)]) ++ [V.bl (b 15), V.bl (b 16), V.bl (b 17)])) = H6 at hd6 s6 l6 ⊢
    refine ⟨_, rfl, _, rfl, ec, _, _, _, _, rfl, fun _ r => r, hk 18 (by decide), hd6, by show 1 ≤ sizeLine; decide, fun q6 f6 => ?_⟩
    have u6 : Same H6 (upd H6 q6 (.lst [V.bl (b 18)])) := same_new f6
    have lq6 := u6 _ _ l6
    refine ⟨_, _, _, _, rfl, rfl, lq6, upd_same, by show 19 ≤ sizeLine; decide, fun r6 g6 => ?_⟩
    have t6 : Same H6 (upd (upd H6 q6 (.lst [V.bl (b 18)])) r6 (.lst (((((([V.bl (b 0), V.bl (b 1), V.bl (b 2)] ++ [V.bl (b 3), V.bl (b 4), V.bl (b 5)]) ++ [V.bl (b 6), V.bl (b 7), V.bl (b 8)]) ++ [V.bl (b 9), V.bl (b 10), V.bl (b 11)]) ++ [V.bl (b 12), V.bl (b 13), V.bl (b 14)]) ++ [V.bl (b 15), V.bl (b 16), V.bl (b 17)]) ++ [V.bl (b 18)]))) := u6.trans (same_new g6)
    have hd7 := t6 _ _ hd6
    have s7 := s6.trans t6
    have l7 : upd (upd H6 q6 (.lst [V.bl (b 18)])) r6 (.lst (((((([V.bl (b 0), V.bl (b 1), V.bl (b 2)] ++ [V.bl (b 3), V.bl (b 4), V.bl (b 5)]) ++ [V.bl (b 6), V.bl (b 7), V.bl (b 8)]) ++ [V.bl (b 9), V.bl (b 10), V.bl (b 11)]) ++ [V.bl (b 12), V.bl (b 13), V.bl (b 14)]) ++ [V.bl (b 15), V.bl (b 16), V.bl (b 17)]) ++ [V.bl (b 18)])) r6 = some (.lst (((((([V.bl (b 0), V.bl (b 1), V.bl (b 2)] ++ [V.bl (b 3), V.bl (b 4), V.bl (b 5)]) ++ [V.bl (b 6), V.bl (b 7), V.bl (b 8)]) ++ [V.bl (b 9), V.bl (b 10), V.bl (b 11)]) ++ [V.bl (b 12), V.bl (b 13), V.bl (b 14)]) ++ [V.bl (b 15), V.bl (b 16), V.bl (b 17)]) ++ [V.bl (b 18)])) := upd_same
    generalize upd (upd H6 q6 (.lst [V.bl (b 18)])) r6 (.lst (((((([V.bl (b 0), V.bl (b 1), V.bl (b 2)] ++ [V.bl (b 3), V.bl (b 4), V.bl (b 5)]) ++ [V.bl (b 6), V.bl (b 7), V.bl (b 8)]) ++ [V.bl (b 9), V.bl (b 10), V.bl (b 11)]) ++ [V.bl (b 12), V.bl (b 13), V.bl (b 14)]) ++ [V.bl (b 15), V.bl (b 16), V.bl (b 17)]) ++ [V.bl (b 18)])) = H7 at hd7 s7 l7 ⊢
    exact ⟨_, rfl, k _ _ s7 l7⟩
end
end K0
namespace K0
open PySem PySem.Spec PyProof.Rows L2 L2H MXb MXd MXe MXf
section
variable {P : Program} {w : World} {K : PySem.W.Frag} {mg : Str → Option Value} {base : Heap} {fI CR : Addr} {cs : Nat → Addr} {fdI : FuncData}
theorem none0 {X : Cx} : L2N.Takes X (fun _ _ _ _ => False) := fun _ _ x => by
  obtain ⟨_, _, _, _, _, _, _, _, _, _, _, _, _, _, _, _, z⟩ := x
  exact z.elim
theorem ps_no {X : Cx} {st : List Stmt} : PSs X st (fun _ _ _ => False) := ⟨fun _ _ _ _ _ _ h => h.elim⟩
/-- a suite's reading where the error is of an own class and has a dict -/
def tErr (t : Addr → Addr → Addr → TS) : Addr → Value → Option Addr → TS := fun a cls d => match cls, d with
  | .ref C, some dd => t a C dd
  | _, _ => fun _ _ _ => False
theorem ps_err {X : Cx} {st : List Stmt} {a : Addr} {oe : Obj} {cls : Value} {d : Option Addr} {pn : List (Addr × Obj)} {t : Addr → Addr → Addr → TS} (hz : L2N.Zn cls d oe) (hf : ∃ vs, oe.data = .fields vs)
    (h : ∀ C dd, ErrP C dd (a, oe) → PSs (X.suite a ((a, oe) :: pn)) st (t a C dd)) : PSs (X.suite a ((a, oe) :: pn)) st (tErr t a cls d) := by
  match cls, d with
  | .ref C, some dd => exact h C dd ⟨hz.zc, hf⟩
  | .ref _, none => exact ps_no
  | .none, _ => exact ps_no
  | .ellipsis, _ => exact ps_no
  | .notImplemented, _ => exact ps_no
  | .bool _, _ => exact ps_no
  | .int _ _, _ => exact ps_no
  | .float _ _, _ => exact ps_no
  | .str _ _, _ => exact ps_no
  | .bytes _ _, _ => exact ps_no
  | .type _, _ => exact ps_no
  | .builtin _, _ => exact ps_no
theorem room_suite {X : Cx} {k : Nat} {a : Addr} {pn : List (Addr × Obj)} (hr : Room k X.A) : RoomH k (X.suite a pn).A := ⟨(roomH_of hr).dp, (roomH_of hr).un⟩
def tWaySuite (K : PySem.W.Frag) (cs : Nat → Addr) : Addr → Addr → Addr → TS := fun a C d =>
  tSeq (tAsg (tCallE (spMarks K cs) a C d (tCons (tVar 4) tNil)) (gName 2)) (tAsg (tCB (rIsP K a C d) (tCons (tVar 4) (tCons (tC (.ty "ValueError")) tNil))) (gName 3))
theorem scWay : FnScope ["way", "many", "marks", "under", "e"] ["way", "many"] (defScope sWay) := ⟨rfl, rfl, rfl, by decide +kernel, rfl, by decide +kernel, by decide +kernel⟩
theorem one_mark : ∀ i : Nat, i < 19 → ((List.range 19).map fun j => decide (i = j)).count true = 1 := by decide +kernel
theorem own_mark : ∀ i : Nat, i < 19 → ((List.range 19).map fun j => V.bl (decide (i = j)))[i]? = some (.bl true) := by decide +kernel
theorem ok_way {f fO fM : Addr} {fd fdO fdM : FuncData} (F : Fun K "_law_way_right" "_law_way_right" sWay f fd) (T : Txt K mg fI CR cs)
    (GO : FnOk P w K mg base (L2N.CX P w) 4 fO fdO ["way"] (spOne cs 0)) (gO : mg "_law_raised_one" = some (.ref fO)) (kO : PySem.W.keepIn K (.ref fO) = true) (bO : Binds K fdO ["way"] [])
    (GM : FnE P w K mg base 1 fM fdM ["e"] (spMarks K cs)) (gM : mg "_law_marks" = some (.ref fM)) (kM : PySem.W.keepIn K (.ref fM) = true) (bM : Binds K fdM ["e"] []) :
    FnOk P w K mg base CX0 5 f fd ["way", "many"] spWay := by
  refine F.ok scWay (fun vs H Q E h => ?_) (fun cdv A outer s H vs Q E hr h => ?_)
  · obtain ⟨i, hi, rfl, k⟩ := h
    rfl
  · obtain ⟨i, hi, rfl, k⟩ := h
    refine ⟨_, pss_cons (ps_par (i := 2) (j := 3) rfl scWay.nd rfl rfl (by decide) rfl rfl (pa_cons (pe_lst pa_nil) (pa_cons pe_bl pa_nil)) (by rfl))
      (pss_cons (L2N.ps_try_as (i := 4) (tb := fun W => tDrop (tCallS (spOne cs 0) (WE W) (tCons (tVar 0) tNil))) (ts := tErr (tWaySuite K cs)) (Wout := fun _ _ _ _ => False) rfl rfl scWay.nd rfl rfl ⟨rfl, by decide, Or.inl T.r.gC⟩ none0
          (fun W pn xe tk _ => pss_one (ps_expr (by exact (pe_callS GO hr rfl gO kO bO (fun σ => L2N.passAt tk σ) (by exact (pa_cons (pv 0) pa_nil))))))
          (fun a oe cls d pn hz hf => ps_err hz hf fun C dd ep =>
            pss_cons (ps_set (i := 2) scWay.nd rfl (Or.inl rfl) (by exact (pe_callE (p := (a, oe)) GM (room_suite (hr.mono (by decide))) List.mem_cons_self ep rfl gM kM bM (by exact (pa_cons (pv 4) pa_nil)))))
            (pss_one (ps_set (i := 3) scWay.nd rfl (Or.inl rfl) (by exact (pe_callB (call_isP (p := (a, oe)) List.mem_cons_self ep) (by rfl) T.isi (by decide +kernel) (by exact (pa_cons (pv 4) (pa_cons (pe_bltn (v := .ty "ValueError") rfl T.verr (by decide +kernel) rfl) pa_nil)))))))))
      (pss_one (ps_ret (pe_and (pv 3) (pe_and (pe_cmpR op_eq (pe_bm PySem.F.plainAttrs_list PySem.F.slot_list_count PySem.F.type_list_count mt_countB (pv 2) (pa_cons pe_bl pa_nil)) pe_int (nomark _))
        (pe_and (pe_cmpR op_eq (pe_callB call_len_seq (by rfl) T.len PySem.boot_len (pa_cons (pv 2) pa_nil)) (pv 1) (nomark _))
        (pe_one (pe_ix ix_list (pv 2) (pv 0) (fun _ _ => rfl))))))))), ?_⟩
    -- marks, under = ([], False)
    refine ⟨by show 0 ≤ sizeLine; decide, fun p0 n0 => ⟨_, _, rfl, ?_⟩⟩
    have s0 : Same H (upd H p0 (.lst [])) := same_new n0
    generalize upd H p0 (.lst []) = H0 at s0 ⊢
    -- the try: the i-th error comes
    refine ⟨_, rfl, i, Nat.zero_le _, hi, rfl, fun d fs H1 s1 hd => ?_⟩
    refine ⟨true, T.ee i hi, fun _ a na => ?_, fun q => Bool.noConfusion q⟩
    refine ⟨_, rfl, fun j => decide (i = j), fs, rfl, (T.c i hi).ec, fun j hj => T.kk i j hi hj, hd, fun H2 p2 s2 hp2 => ?_⟩
    refine ⟨_, rfl, (T.c i hi).ec, _, _, _, fs, rfl, fun _ r => r, T.kv i hi, s2 _ _ hd, ?_⟩
    have l2 : SqL K H2 p2 (((List.range 19).map fun j => decide (i = j)).map V.bl) := SqL.of hp2
    -- the answer
    refine ⟨_, rfl, _, rfl, ifT rfl ?_⟩
    refine ⟨_, rfl, .inl ⟨rfl, _, l2⟩, p2, _, true, rfl, rfl, l2, rfl, _, rfl, ifT (decide_eq_true (by rw [one_mark i hi]; rfl)) ?_⟩
    refine ⟨_, rfl, p2, _, rfl, .inl (SqL.of hp2), _, rfl, rfl, _, rfl, ifT rfl ?_⟩
    exact ⟨_, rfl, _, rfl, p2, _, (i : Int), _, rfl, rfl, SqL.of hp2, atI_nat (own_mark i hi), k H2 ((s0.trans s1).trans s2)⟩
end
end K0
namespace K0
open PySem PySem.Spec PyProof.Rows L2 L2H MXb MXd MXe MXf
theorem same_tup {K : PySem.W.Frag} {H H' : Hp} {a : Addr} {xs : List V} (e : Same H H') (h : SqT K H a xs) : SqT K H' a xs := by
  rcases h with (h | ⟨o, h⟩) | h
  · exact .inl (.inl (e _ _ h))
  · exact .inl (.inr ⟨o, e _ _ h⟩)
  · exact .inr h
mutual
theorem dp_same {K : PySem.W.Frag} {H H' : Hp} (e : Same H H') : ∀ {v : V} {d : PyData}, Dp K H v d → Dp K H' v d
  | _, _, .non => .non
  | _, _, .bl b => .bl b
  | _, _, .int i => .int i
  | _, _, .str x => .str x
  | _, _, .lst s a => .lst (e.seq s) (dps_same e a)
  | _, _, .tup s a => .tup (same_tup e s) (dps_same e a)
theorem dps_same {K : PySem.W.Frag} {H H' : Hp} (e : Same H H') : ∀ {vs : List V} {ds : List PyData}, DpAll K H vs ds → DpAll K H' vs ds
  | _, _, .nil => .nil
  | _, _, .cons a r => .cons (dp_same e a) (dps_same e r)
end
theorem dps_len {K : PySem.W.Frag} {H : Hp} : ∀ {vs : List V} {ds : List PyData}, DpAll K H vs ds → vs.length = ds.length
  | _, _, .nil => rfl
  | _, _, .cons _ r => by
    rw [List.length_cons, List.length_cons, dps_len r]
theorem dps_app {K : PySem.W.Frag} {H : Hp} : ∀ {vs us : List V} {ds es : List PyData}, DpAll K H vs ds → DpAll K H us es → DpAll K H (vs ++ us) (ds ++ es)
  | _, _, _, _, .nil, b => b
  | _, _, _, _, .cons a r, b => .cons a (dps_app r b)
theorem same_made {H : Hp} {a d C : Addr} {fl : Str} {y : V} (na : H a = none) (nd : H d = none) : Same H (hMade H a d C fl y) := fun b o e => made_o na nd e
/-- kept at l1, due at l2: both read as ds -/
def Iv (K : PySem.W.Frag) (H0 H : Hp) (σ : St) (ds : List PyData) : Prop := Same H0 H ∧ ∃ (l1 l2 : Addr) (vs us : List V), σ = [some (.ref l1), some (.ref l2)] ∧ H l1 = some (.lst vs) ∧ H l2 = some (.lst us) ∧ DpAll K H vs ds ∧ DpAll K H us ds
section
variable {P : Program} {w : World} {K : PySem.W.Frag} {mg : Str → Option Value} {base : Heap} {fI CR : Addr} {cs : Nat → Addr} {fdI : FuncData}
def tPairK (K : PySem.W.Frag) (C : Addr) (k : Int) : TS := tAsg (tOp rCat (tVar 0) (tLst (tCons (tFx K "value" (tMkV C "value" (tC (.int k)))) (tCons (tFx K "value" (tMkK C "value" (tCons (tTup (tCons (tC (.int k)) tNil)) tNil))) tNil)))) (gName 0)
def tPairD (k : Int) : TS := tAsg (tOp rCat (tVar 1) (tLst (tCons (tC (.int k)) (tCons (tTup (tCons (tC (.int k)) tNil)) tNil)))) (gName 1)
theorem step_pair (T : Txt K mg fI CR cs) (i : Nat) (hi : i < 19) (k : Int) {H0 H : Hp} {σ : St} {ds : List PyData} {D : Ends} {R : TS} (iv : Iv K H0 H σ ds) (hl : ds.length ≤ 100)
    (go : ∀ H' σ', Iv K H0 H' σ' (ds ++ [.int k, .tuple [.int k]]) → R D σ' H') : tSeq (tPairK K (cs i) k) (tSeq (tPairD k) R) D σ H := by
  obtain ⟨s0, l1, l2, vs, us, rfl, h1, h2, d1, d2⟩ := iv
  have c := T.c i hi
  refine ⟨_, rfl, fun a1 e1 na1 ne1 x1 => ⟨a1, cs i, e1, _, _, rfl, c.xf, c.noF, made_a, made_d x1, rfl, ?_⟩⟩
  have s1 : Same H (hMade H a1 e1 (cs i) "value" (.int k)) := same_made na1 ne1
  generalize hMade H a1 e1 (cs i) "value" (.int k) = G1 at s1 ⊢
  refine ⟨by show 1 ≤ sizeLine; decide, fun t nt => ⟨_, rfl, fun a2 e2 na2 ne2 x2 => ⟨a2, cs i, e2, _, _, rfl, c.xf, c.noF, made_a, made_d x2, rfl, ?_⟩⟩⟩
  have s2 : Same G1 (upd G1 t (.tup [V.int k])) := same_new nt
  have ht : upd G1 t (.tup [V.int k]) t = some (.tup [V.int k]) := upd_same
  generalize upd G1 t (.tup [V.int k]) = G2 at s2 ht na2 ne2 ⊢
  have s3 : Same G2 (hMade G2 a2 e2 (cs i) "value" (.ref t)) := same_made na2 ne2
  generalize hMade G2 a2 e2 (cs i) "value" (.ref t) = G3 at s3 ⊢
  refine ⟨by show 2 ≤ sizeLine; decide, fun q nq => ?_⟩
  have s4 : Same G3 (upd G3 q (.lst [V.int k, V.ref t])) := same_new nq
  have s14 : Same H (upd G3 q (.lst [V.int k, V.ref t])) := ((s1.trans s2).trans s3).trans s4
  have z1 := dps_len d1
  have z2 := dps_len d2
  refine ⟨l1, q, vs, _, rfl, rfl, s14 _ _ h1, upd_same, by rw [sizeLine_eq]; show vs.length + 2 ≤ _; omega, fun r nr => ?_⟩
  have s5 : Same (upd G3 q (.lst [V.int k, V.ref t])) (upd (upd G3 q (.lst [V.int k, V.ref t])) r (.lst (vs ++ [V.int k, V.ref t]))) := same_new nr
  have hr : upd (upd G3 q (.lst [V.int k, V.ref t])) r (.lst (vs ++ [V.int k, V.ref t])) r = some (.lst (vs ++ [V.int k, V.ref t])) := upd_same
  have s15 := s14.trans s5
  have ht5 := s5 _ _ (s4 _ _ (s3 _ _ ht))
  generalize upd (upd G3 q (.lst [V.int k, V.ref t])) r (.lst (vs ++ [V.int k, V.ref t])) = G4 at s15 hr ht5 ⊢
  -- due
  refine ⟨_, rfl, by show 1 ≤ sizeLine; decide, fun t' nt' => ⟨by show 2 ≤ sizeLine; decide, fun q' nq' => ?_⟩⟩
  have u1 : Same G4 (upd G4 t' (.tup [V.int k])) := same_new nt'
  have ht' : upd G4 t' (.tup [V.int k]) t' = some (.tup [V.int k]) := upd_same
  generalize upd G4 t' (.tup [V.int k]) = G5 at u1 ht' nq' ⊢
  have u2 : Same G5 (upd G5 q' (.lst [V.int k, V.ref t'])) := same_new nq'
  refine ⟨l2, q', us, _, rfl, rfl, u2 _ _ (u1 _ _ (s15 _ _ h2)), upd_same, by rw [sizeLine_eq]; show us.length + 2 ≤ _; omega, fun r' nr' => ?_⟩
  have u3 : Same (upd G5 q' (.lst [V.int k, V.ref t'])) (upd (upd G5 q' (.lst [V.int k, V.ref t'])) r' (.lst (us ++ [V.int k, V.ref t']))) := same_new nr'
  have u13 := (u1.trans u2).trans u3
  have all := s15.trans u13
  refine go _ _ ⟨s0.trans all, r, r', _, _, rfl, u13 _ _ hr, upd_same, ?_, ?_⟩
  · exact dps_app (dps_same all d1) (.cons (.int k) (.cons (.tup (.inl (.inl (u13 _ _ ht5))) (.cons (.int k) .nil)) .nil))
  · exact dps_app (dps_same all d2) (.cons (.int k) (.cons (.tup (.inl (.inl (u3 _ _ (u2 _ _ ht')))) (.cons (.int k) .nil)) .nil))
theorem scVals : FnScope ["kept", "due"] [] (defScope sVals) := ⟨rfl, rfl, rfl, by decide +kernel, rfl, by decide +kernel, by decide +kernel⟩

theorem ok_vals {f : Addr} {fd : FuncData} (F : Fun K "_law_values_right" "_law_values_right" sVals f fd) (T : Txt K mg fI CR cs) (I : Ini P w K mg base fI fdI) : FnOk P w K mg base CX0 3 f fd [] spTrue := by
  refine F.ok scVals (fun vs H Q E h => ?_) (fun cdv A outer s H vs Q E hr h => ?_)
  · obtain ⟨rfl, _⟩ := h
    rfl
  · obtain ⟨rfl, k⟩ := h
    refine ⟨_, pss_cons (ps_set (i := 0) scVals.nd rfl (Or.inl rfl) (pe_lst (pa_cons (pe_fx (pe_mkv T.r I.ok I.bd hr rfl pe_int)) (pa_cons (pe_fx (pe_mkK T.r I.ok I.bd hr (by rfl) (pk_cons pe_str pk_nil))) (pa_cons (pe_fx (pe_mkv (T.c 0 (by decide)) I.ok I.bd hr rfl pe_non)) pa_nil)))))
      (pss_cons (ps_set (i := 0) scVals.nd rfl (Or.inl rfl) (pe_op op_cat (pv 0) (pe_lst (pa_cons (pe_fx (pe_mkK (T.c 0 (by decide)) I.ok I.bd hr (by rfl) (pk_cons pe_non pk_nil))) (pa_cons (pe_fx (pe_mkv (T.c 1 (by decide)) I.ok I.bd hr rfl pe_non)) pa_nil)))))
      (pss_cons (ps_set (i := 0) scVals.nd rfl (Or.inl rfl) (pe_op op_cat (pv 0) (pe_lst (pa_cons (pe_fx (pe_mkK (T.c 1 (by decide)) I.ok I.bd hr (by rfl) (pk_cons pe_non pk_nil))) pa_nil))))
      (pss_cons (ps_set (i := 1) scVals.nd rfl (Or.inl rfl) (pe_lst (pa_cons (pe_int) (pa_cons (pe_str) (pa_cons (pe_non) (pa_cons (pe_non) (pa_cons (pe_non) (pa_cons (pe_non) pa_nil))))))))
      (pss_cons (ps_set (i := 0) scVals.nd rfl (Or.inl rfl) (pe_op op_cat (pv 0) (pe_lst (pa_cons (pe_fx (pe_mkv (T.c 2 (by decide)) I.ok I.bd hr rfl pe_int)) (pa_cons (pe_fx (pe_mkK (T.c 2 (by decide)) I.ok I.bd hr (by rfl) (pk_cons (pe_tup (pa_cons pe_int pa_nil)) pk_nil))) pa_nil)))))
      (pss_cons (ps_set (i := 1) scVals.nd rfl (Or.inl rfl) (pe_op op_cat (pv 1) (pe_lst (pa_cons (pe_int) (pa_cons (pe_tup (pa_cons pe_int pa_nil)) pa_nil)))))
      (pss_cons (ps_set (i := 0) scVals.nd rfl (Or.inl rfl) (pe_op op_cat (pv 0) (pe_lst (pa_cons (pe_fx (pe_mkv (T.c 3 (by decide)) I.ok I.bd hr rfl pe_int)) (pa_cons (pe_fx (pe_mkK (T.c 3 (by decide)) I.ok I.bd hr (by rfl) (pk_cons (pe_tup (pa_cons pe_int pa_nil)) pk_nil))) pa_nil)))))
      (pss_cons (ps_set (i := 1) scVals.nd rfl (Or.inl rfl) (pe_op op_cat (pv 1) (pe_lst (pa_cons (pe_int) (pa_cons (pe_tup (pa_cons pe_int pa_nil)) pa_nil)))))
      (pss_cons (ps_set (i := 0) scVals.nd rfl (Or.inl rfl) (pe_op op_cat (pv 0) (pe_lst (pa_cons (pe_fx (pe_mkv (T.c 4 (by decide)) I.ok I.bd hr rfl pe_int)) (pa_cons (pe_fx (pe_mkK (T.c 4 (by decide)) I.ok I.bd hr (by rfl) (pk_cons (pe_tup (pa_cons pe_int pa_nil)) pk_nil))) pa_nil)))))
      (pss_cons (ps_set (i := 1) scVals.nd rfl (Or.inl rfl) (pe_op op_cat (pv 1) (pe_lst (pa_cons (pe_int) (pa_cons (pe_tup (pa_cons pe_int pa_nil)) pa_nil)))))
      (pss_cons (ps_set (i := 0) scVals.nd rfl (Or.inl rfl) (pe_op op_cat (pv 0) (pe_lst (pa_cons (pe_fx (pe_mkv (T.c 5 (by decide)) I.ok I.bd hr rfl pe_int)) (pa_cons (pe_fx (pe_mkK (T.c 5 (by decide)) I.ok I.bd hr (by rfl) (pk_cons (pe_tup (pa_cons pe_int pa_nil)) pk_nil))) pa_nil)))))
      (pss_cons (ps_set (i := 1) scVals.nd rfl (Or.inl rfl) (pe_op op_cat (pv 1) (pe_lst (pa_cons (pe_int) (pa_cons (pe_tup (pa_cons pe_int pa_nil)) pa_nil)))))
      (pss_cons (ps_set (i := 0) scVals.nd rfl (Or.inl rfl) (pe_op op_cat (pv 0) (pe_lst (pa_cons (pe_fx (pe_mkv (T.c 6 (by decide)) I.ok I.bd hr rfl pe_int)) (pa_cons (pe_fx (pe_mkK (T.c 6 (by decide)) I.ok I.bd hr (by rfl) (pk_cons (pe_tup (pa_cons pe_int pa_nil)) pk_nil))) pa_nil)))))
      (pss_cons (ps_set (i := 1) scVals.nd rfl (Or.inl rfl) (pe_op op_cat (pv 1) (pe_lst (pa_cons (pe_int) (pa_cons (pe_tup (pa_cons pe_int pa_nil)) pa_nil)))))
      (pss_cons (ps_set (i := 0) scVals.nd rfl (Or.inl rfl) (pe_op op_cat (pv 0) (pe_lst (pa_cons (pe_fx (pe_mkv (T.c 7 (by decide)) I.ok I.bd hr rfl pe_int)) (pa_cons (pe_fx (pe_mkK (T.c 7 (by decide)) I.ok I.bd hr (by rfl) (pk_cons (pe_tup (pa_cons pe_int pa_nil)) pk_nil))) pa_nil)))))
      (pss_cons (ps_set (i := 1) scVals.nd rfl (Or.inl rfl) (pe_op op_cat (pv 1) (pe_lst (pa_cons (pe_int) (pa_cons (pe_tup (pa_cons pe_int pa_nil)) pa_nil)))))
      (pss_cons (ps_set (i := 0) scVals.nd rfl (Or.inl rfl) (pe_op op_cat (pv 0) (pe_lst (pa_cons (pe_fx (pe_mkv (T.c 8 (by decide)) I.ok I.bd hr rfl pe_int)) (pa_cons (pe_fx (pe_mkK (T.c 8 (by decide)) I.ok I.bd hr (by rfl) (pk_cons (pe_tup (pa_cons pe_int pa_nil)) pk_nil))) pa_nil)))))
      (pss_cons (ps_set (i := 1) scVals.nd rfl (Or.inl rfl) (pe_op op_cat (pv 1) (pe_lst (pa_cons (pe_int) (pa_cons (pe_tup (pa_cons pe_int pa_nil)) pa_nil)))))
      (pss_cons (ps_set (i := 0) scVals.nd rfl (Or.inl rfl) (pe_op op_cat (pv 0) (pe_lst (pa_cons (pe_fx (pe_mkv (T.c 9 (by decide)) I.ok I.bd hr rfl pe_int)) (pa_cons (pe_fx (pe_mkK (T.c 9 (by decide)) I.ok I.bd hr (by rfl) (pk_cons (pe_tup (pa_cons pe_int pa_nil)) pk_nil))) pa_nil)))))
      (pss_cons (ps_set (i := 1) scVals.nd rfl (Or.inl rfl) (pe_op op_cat (pv 1) (pe_lst (pa_cons (pe_int) (pa_cons (pe_tup (pa_cons pe_int pa_nil)) pa_nil)))))
      (pss_cons (ps_set (i := 0) scVals.nd rfl (Or.inl rfl) (pe_op op_cat (pv 0) (pe_lst (pa_cons (pe_fx (pe_mkv (T.c 10 (by decide)) I.ok I.bd hr rfl pe_int)) (pa_cons (pe_fx (pe_mkK (T.c 10 (by decide)) I.ok I.bd hr (by rfl) (pk_cons (pe_tup (pa_cons pe_int pa_nil)) pk_nil))) pa_nil)))))
      (pss_cons (ps_set (i := 1) scVals.nd rfl (Or.inl rfl) (pe_op op_cat (pv 1) (pe_lst (pa_cons (pe_int) (pa_cons (pe_tup (pa_cons pe_int pa_nil)) pa_nil)))))
      (pss_cons (ps_set (i := 0) scVals.nd rfl (Or.inl rfl) (pe_op op_cat (pv 0) (pe_lst (pa_cons (pe_fx (pe_mkv (T.c 11 (by decide)) I.ok I.bd hr rfl pe_int)) (pa_cons (pe_fx (pe_mkK (T.c 11 (by decide)) I.ok I.bd hr (by rfl) (pk_cons (pe_tup (pa_cons pe_int pa_nil)) pk_nil))) pa_nil)))))
      (pss_cons (ps_set (i := 1) scVals.nd rfl (Or.inl rfl) (pe_op op_cat (pv 1) (pe_lst (pa_cons (pe_int) (pa_cons (pe_tup (pa_cons pe_int pa_nil)) pa_nil)))))
      (pss_cons (ps_set (i := 0) scVals.nd rfl (Or.inl rfl) (pe_op op_cat (pv 0) (pe_lst (pa_cons (pe_fx (pe_mkv (T.c 12 (by decide)) I.ok I.bd hr rfl pe_int)) (pa_cons (pe_fx (pe_mkK (T.c 12 (by decide)) I.ok I.bd hr (by rfl) (pk_cons (pe_tup (pa_cons pe_int pa_nil)) pk_nil))) pa_nil)))))
      (pss_cons (ps_set (i := 1) scVals.nd rfl (Or.inl rfl) (pe_op op_cat (pv 1) (pe_lst (pa_cons (pe_int) (pa_cons (pe_tup (pa_cons pe_int pa_nil)) pa_nil)))))
      (pss_cons (ps_set (i := 0) scVals.nd rfl (Or.inl rfl) (pe_op op_cat (pv 0) (pe_lst (pa_cons (pe_fx (pe_mkv (T.c 13 (by decide)) I.ok I.bd hr rfl pe_int)) (pa_cons (pe_fx (pe_mkK (T.c 13 (by decide)) I.ok I.bd hr (by rfl) (pk_cons (pe_tup (pa_cons pe_int pa_nil)) pk_nil))) pa_nil)))))
      (pss_cons (ps_set (i := 1) scVals.nd rfl (Or.inl rfl) (pe_op op_cat (pv 1) (pe_lst (pa_cons (pe_int) (pa_cons (pe_tup (pa_cons pe_int pa_nil)) pa_nil)))))
      (pss_cons (ps_set (i := 0) scVals.nd rfl (Or.inl rfl) (pe_op op_cat (pv 0) (pe_lst (pa_cons (pe_fx (pe_mkv (T.c 14 (by decide)) I.ok I.bd hr rfl pe_int)) (pa_cons (pe_fx (pe_mkK (T.c 14 (by decide)) I.ok I.bd hr (by rfl) (pk_cons (pe_tup (pa_cons pe_int pa_nil)) pk_nil))) pa_nil)))))
      (pss_cons (ps_set (i := 1) scVals.nd rfl (Or.inl rfl) (pe_op op_cat (pv 1) (pe_lst (pa_cons (pe_int) (pa_cons (pe_tup (pa_cons pe_int pa_nil)) pa_nil)))))
      (pss_cons (ps_set (i := 0) scVals.nd rfl (Or.inl rfl) (pe_op op_cat (pv 0) (pe_lst (pa_cons (pe_fx (pe_mkv (T.c 15 (by decide)) I.ok I.bd hr rfl pe_int)) (pa_cons (pe_fx (pe_mkK (T.c 15 (by decide)) I.ok I.bd hr (by rfl) (pk_cons (pe_tup (pa_cons pe_int pa_nil)) pk_nil))) pa_nil)))))
      (pss_cons (ps_set (i := 1) scVals.nd rfl (Or.inl rfl) (pe_op op_cat (pv 1) (pe_lst (pa_cons (pe_int) (pa_cons (pe_tup (pa_cons pe_int pa_nil)) pa_nil)))))
      (pss_cons (ps_set (i := 0) scVals.nd rfl (Or.inl rfl) (pe_op op_cat (pv 0) (pe_lst (pa_cons (pe_fx (pe_mkv (T.c 16 (by decide)) I.ok I.bd hr rfl pe_int)) (pa_cons (pe_fx (pe_mkK (T.c 16 (by decide)) I.ok I.bd hr (by rfl) (pk_cons (pe_tup (pa_cons pe_int pa_nil)) pk_nil))) pa_nil)))))
      (pss_cons (ps_set (i := 1) scVals.nd rfl (Or.inl rfl) (pe_op op_cat (pv 1) (pe_lst (pa_cons (pe_int) (pa_cons (pe_tup (pa_cons pe_int pa_nil)) pa_nil)))))
      (pss_cons (ps_set (i := 0) scVals.nd rfl (Or.inl rfl) (pe_op op_cat (pv 0) (pe_lst (pa_cons (pe_fx (pe_mkv (T.c 17 (by decide)) I.ok I.bd hr rfl pe_int)) (pa_cons (pe_fx (pe_mkK (T.c 17 (by decide)) I.ok I.bd hr (by rfl) (pk_cons (pe_tup (pa_cons pe_int pa_nil)) pk_nil))) pa_nil)))))
      (pss_cons (ps_set (i := 1) scVals.nd rfl (Or.inl rfl) (pe_op op_cat (pv 1) (pe_lst (pa_cons (pe_int) (pa_cons (pe_tup (pa_cons pe_int pa_nil)) pa_nil)))))
      (pss_cons (ps_set (i := 0) scVals.nd rfl (Or.inl rfl) (pe_op op_cat (pv 0) (pe_lst (pa_cons (pe_fx (pe_mkv (T.c 18 (by decide)) I.ok I.bd hr rfl pe_int)) (pa_cons (pe_fx (pe_mkK (T.c 18 (by decide)) I.ok I.bd hr (by rfl) (pk_cons (pe_tup (pa_cons pe_int pa_nil)) pk_nil))) pa_nil)))))
      (pss_cons (ps_set (i := 1) scVals.nd rfl (Or.inl rfl) (pe_op op_cat (pv 1) (pe_lst (pa_cons (pe_int) (pa_cons (pe_tup (pa_cons pe_int pa_nil)) pa_nil)))))
      (pss_one (ps_ret (pe_cmpR (op_eqD hr.units) (pv 0) (pv 1) (nomark _))))))))))))))))))))))))))))))))))))))))), ?_⟩
    refine fun a1 e1 na1 ne1 x1 => ⟨a1, CR, e1, _, _, rfl, T.r.xf, T.r.noF, made_a, made_d x1, rfl, ?_⟩
    have s1 : Same H (hMade H a1 e1 CR "value" (.int 3)) := same_made na1 ne1
    generalize hMade H a1 e1 CR "value" (.int 3) = G1 at s1 ⊢
    refine ⟨_, rfl, fun a2 e2 na2 ne2 x2 => ⟨a2, CR, e2, _, _, rfl, T.r.xf, T.r.noF, made_a, made_d x2, rfl, ?_⟩⟩
    have s2 : Same G1 (hMade G1 a2 e2 CR "value" (.str "a")) := same_made na2 ne2
    generalize hMade G1 a2 e2 CR "value" (.str "a") = G2 at s2 ⊢
    refine fun a3 e3 na3 ne3 x3 => ⟨a3, (cs 0), e3, _, _, rfl, (T.c 0 (by decide)).xf, (T.c 0 (by decide)).noF, made_a, made_d x3, rfl, ?_⟩
    have s3 : Same G2 (hMade G2 a3 e3 (cs 0) "value" .non) := same_made na3 ne3
    generalize hMade G2 a3 e3 (cs 0) "value" .non = G3 at s3 ⊢
    refine ⟨by show 3 ≤ sizeLine; decide, fun p0 m0 => ?_⟩
    have b0 : Same G3 (upd G3 p0 (.lst [V.int 3, V.str "a", V.non])) := same_new m0
    have h0 : upd G3 p0 (.lst [V.int 3, V.str "a", V.non]) p0 = some (.lst [V.int 3, V.str "a", V.non]) := upd_same
    have c0 : Same H (upd G3 p0 (.lst [V.int 3, V.str "a", V.non])) := ((s1.trans s2).trans s3).trans b0
    generalize upd G3 p0 (.lst [V.int 3, V.str "a", V.non]) = K0 at c0 h0 ⊢
    refine ⟨_, rfl, ?_⟩
    refine ⟨_, rfl, fun a4 e4 na4 ne4 x4 => ⟨a4, (cs 0), e4, _, _, rfl, (T.c 0 (by decide)).xf, (T.c 0 (by decide)).noF, made_a, made_d x4, rfl, ?_⟩⟩
    have s4 : Same K0 (hMade K0 a4 e4 (cs 0) "value" .non) := same_made na4 ne4
    generalize hMade K0 a4 e4 (cs 0) "value" .non = G4 at s4 ⊢
    refine fun a5 e5 na5 ne5 x5 => ⟨a5, (cs 1), e5, _, _, rfl, (T.c 1 (by decide)).xf, (T.c 1 (by decide)).noF, made_a, made_d x5, rfl, ?_⟩
    have s5 : Same G4 (hMade G4 a5 e5 (cs 1) "value" .non) := same_made na5 ne5
    generalize hMade G4 a5 e5 (cs 1) "value" .non = G5 at s5 ⊢
    refine ⟨by show 2 ≤ sizeLine; decide, fun q1 m1 => ?_⟩
    have b1 : Same G5 (upd G5 q1 (.lst [V.non, V.non])) := same_new m1
    have g1 := (s4.trans s5).trans b1
    refine ⟨p0, q1, _, _, rfl, rfl, g1 _ _ h0, upd_same, by show 5 ≤ sizeLine; decide, fun r1 o1 => ?_⟩
    have c1 : Same H (upd (upd G5 q1 (.lst [V.non, V.non])) r1 (.lst ([V.int 3, V.str "a", V.non] ++ [V.non, V.non]))) := (c0.trans g1).trans (same_new o1)
    have h1 : upd (upd G5 q1 (.lst [V.non, V.non])) r1 (.lst ([V.int 3, V.str "a", V.non] ++ [V.non, V.non])) r1 = some (.lst ([V.int 3, V.str "a", V.non] ++ [V.non, V.non])) := upd_same
    generalize upd (upd G5 q1 (.lst [V.non, V.non])) r1 (.lst ([V.int 3, V.str "a", V.non] ++ [V.non, V.non])) = K1 at c1 h1 ⊢
    refine ⟨_, rfl, ?_⟩
    refine ⟨_, rfl, fun a6 e6 na6 ne6 x6 => ⟨a6, (cs 1), e6, _, _, rfl, (T.c 1 (by decide)).xf, (T.c 1 (by decide)).noF, made_a, made_d x6, rfl, ?_⟩⟩
    have s6 : Same K1 (hMade K1 a6 e6 (cs 1) "value" .non) := same_made na6 ne6
    generalize hMade K1 a6 e6 (cs 1) "value" .non = G6 at s6 ⊢
    refine ⟨by show 1 ≤ sizeLine; decide, fun q2 m2 => ?_⟩
    have b2 : Same G6 (upd G6 q2 (.lst [V.non])) := same_new m2
    have g2 := s6.trans b2
    refine ⟨r1, q2, _, _, rfl, rfl, g2 _ _ h1, upd_same, by show 6 ≤ sizeLine; decide, fun r2 o2 => ?_⟩
    have c2 : Same H (upd (upd G6 q2 (.lst [V.non])) r2 (.lst ([V.int 3, V.str "a", V.non] ++ [V.non, V.non] ++ [V.non]))) := (c1.trans g2).trans (same_new o2)
    have h2 : upd (upd G6 q2 (.lst [V.non])) r2 (.lst ([V.int 3, V.str "a", V.non] ++ [V.non, V.non] ++ [V.non])) r2 = some (.lst ([V.int 3, V.str "a", V.non] ++ [V.non, V.non] ++ [V.non])) := upd_same
    generalize upd (upd G6 q2 (.lst [V.non])) r2 (.lst ([V.int 3, V.str "a", V.non] ++ [V.non, V.non] ++ [V.non])) = K2 at c2 h2 ⊢
    refine ⟨by show 6 ≤ sizeLine; decide, fun p3 m3 => ?_⟩
    have b3 : Same K2 (upd K2 p3 (.lst [V.int 3, V.str "a", V.non, V.non, V.non, V.non])) := same_new m3
    have d6 : ∀ H : Hp, DpAll K H [V.int 3, V.str "a", V.non, V.non, V.non, V.non] [.int 3, .str "a", .none, .none, .none, .none] := fun H => .cons (.int 3) (.cons (.str "a") (.cons .non (.cons .non (.cons .non (.cons .non .nil)))))
    have iv : Iv K H (upd K2 p3 (.lst [V.int 3, V.str "a", V.non, V.non, V.non, V.non])) [some (.ref r2), some (.ref p3)] [.int 3, .str "a", .none, .none, .none, .none] := ⟨c2.trans b3, r2, p3, _, _, rfl, b3 _ _ h2, upd_same, d6 _, d6 _⟩
    generalize upd K2 p3 (.lst [V.int 3, V.str "a", V.non, V.non, V.non, V.non]) = K3 at iv ⊢
    refine step_pair T 2 (by decide) 0 iv (by decide) (fun H2 σ2 iv => ?_)
    refine step_pair T 3 (by decide) 1 iv (by decide) (fun H3 σ3 iv => ?_)
    refine step_pair T 4 (by decide) 2 iv (by decide) (fun H4 σ4 iv => ?_)
    refine step_pair T 5 (by decide) 3 iv (by decide) (fun H5 σ5 iv => ?_)
    refine step_pair T 6 (by decide) 4 iv (by decide) (fun H6 σ6 iv => ?_)
    refine step_pair T 7 (by decide) 5 iv (by decide) (fun H7 σ7 iv => ?_)
    refine step_pair T 8 (by decide) 6 iv (by decide) (fun H8 σ8 iv => ?_)
    refine step_pair T 9 (by decide) 7 iv (by decide) (fun H9 σ9 iv => ?_)
    refine step_pair T 10 (by decide) 8 iv (by decide) (fun H10 σ10 iv => ?_)
    refine step_pair T 11 (by decide) 9 iv (by decide) (fun H11 σ11 iv => ?_)
    refine step_pair T 12 (by decide) 10 iv (by decide) (fun H12 σ12 iv => ?_)
    refine step_pair T 13 (by decide) 11 iv (by decide) (fun H13 σ13 iv => ?_)
    refine step_pair T 14 (by decide) 12 iv (by decide) (fun H14 σ14 iv => ?_)
    refine step_pair T 15 (by decide) 13 iv (by decide) (fun H15 σ15 iv => ?_)
    refine step_pair T 16 (by decide) 14 iv (by decide) (fun H16 σ16 iv => ?_)
    refine step_pair T 17 (by decide) 15 iv (by decide) (fun H17 σ17 iv => ?_)
    refine step_pair T 18 (by decide) 16 iv (by decide) (fun H18 σ18 iv => ?_)
    obtain ⟨sm, l1, l2, vs, us, rfl, h1, h2, d1, d2⟩ := iv
    refine ⟨_, rfl, _, rfl, _, _, .lst (SqL.of h1) d1, .lst (SqL.of h2) d2, by decide +kernel, by decide +kernel, ?_⟩
    rw [SeqAt.eqv_refl _ (by decide +kernel)]
    exact k _ sm
end
end K0
namespace K0
open PySem PySem.Spec PyProof.Rows L2 L2H MXb MXd MXe MXf MXg
abbrev sIsInt : Stmt := top 24
abbrev sIsNum : Stmt := top 25
abbrev sWrong : Stmt := top 27
abbrev sChkL : Stmt := top 31
abbrev sChkF : Stmt := top 32
abbrev sClo : Stmt := inClass (top 34) 0
/-- the built-ins that the package's own defs name -/
structure Blt (mg : Str → Option Value) : Prop where
  isi : mg "isinstance" = none
  len : mg "len" = none
  int : mg "int" = none
  bool : mg "bool" = none
  list : mg "list" = none
  set : mg "set" = none
  enumerate : mg "enumerate" = none
def spIsInt : Sp := fun vs H Q _ => ∃ i : Int, vs = [.int i] ∧ Q (.bl true) H
def spIsNum : Sp := fun vs H Q _ => ∃ i m : Int, vs = [.int i, .int m] ∧ Q (.bl (decide (0 ≤ i) && decide (i < m))) H
/-- the list [0] of no loops -/
def spWrong : Sp := fun vs H Q _ => ∃ q : Addr, vs = [.ref q, .int 0] ∧ H q = some (.lst [.int 0]) ∧ ∀ H', Same H H' → Q (.int 0) H'
def spChkL : Sp := fun vs H Q _ => ∃ p : Addr, vs = [.ref p] ∧ H p = some (.lst []) ∧ Q .non H
def spChkF (cs : Nat → Addr) : Sp := fun vs H _ E => ∃ q : Addr, vs = [.ref q, .int 0] ∧ H q = some (.lst [.int 0]) ∧ ∀ (d : Addr) (fs : List (Str × V)) (H' : Hp), Same H H' → H' d = some (.xd fs) → E (.ref (cs 2)) (some d) H'
def spClo (cs : Nat → Addr) : Sp := fun vs H _ E => ∃ x p q : Addr, vs = [.ref x, .ref p, .ref q] ∧ H p = some (.lst []) ∧ H q = some (.lst [.int 0]) ∧ ∀ (d : Addr) (fs : List (Str × V)) (H' : Hp), Same H H' → H' d = some (.xd fs) → E (.ref (cs 2)) (some d) H'
section
variable {P : Program} {w : World} {K : PySem.W.Frag} {mg : Str → Option Value} {base : Heap} {fI CR : Addr} {cs : Nat → Addr} {fdI : FuncData}
theorem scIsInt : FnScope ["value"] ["value"] (defScope sIsInt) := ⟨rfl, rfl, rfl, by decide +kernel, rfl, by decide +kernel, by decide +kernel⟩
theorem ok_isint {f : Addr} {fd : FuncData} (F : Fun K "is_integer" "is_integer" sIsInt f fd) (B : Blt mg) : FnOk P w K mg base CX0 1 f fd ["value"] spIsInt := by
  refine F.ok scIsInt (fun vs H Q E h => ?_) (fun cdv A outer s H vs Q E hr h => ?_)
  · obtain ⟨i, rfl, _⟩ := h
    rfl
  · obtain ⟨i, rfl, k⟩ := h
    refine ⟨_, pss_one (ps_ret (pe_and (pe_callB call_isi (by rfl) B.isi (by decide +kernel) (pa_cons (pv 0) (pa_cons (pe_bltn (v := .ty "int") rfl B.int (by decide +kernel) rfl) pa_nil)))
      (pe_one (pe_not (pe_callB call_isi (by rfl) B.isi (by decide +kernel) (pa_cons (pv 0) (pa_cons (pe_bltn (v := .ty "bool") rfl B.bool (by decide +kernel) rfl) pa_nil))))))), ?_⟩
    refine ⟨_, rfl, _, _, _, _, true, rfl, .ty "int", .base (.int i), kit_ty (by decide +kernel), _, rfl, ifT rfl ?_⟩
    exact ⟨_, rfl, _, _, _, _, false, rfl, .ty "bool", .base (.int i), kit_ty (by decide +kernel), _, rfl, k⟩
theorem scIsNum : FnScope ["value", "many"] ["value", "many"] (defScope sIsNum) := ⟨rfl, rfl, rfl, by decide +kernel, rfl, by decide +kernel, by decide +kernel⟩
theorem ok_isnum {f fA : Addr} {fd fdA : FuncData} (F : Fun K "is_number" "is_number" sIsNum f fd) (GA : FnOk P w K mg base CX0 1 fA fdA ["value"] spIsInt) (gA : mg "is_integer" = some (.ref fA)) (kA : PySem.W.keepIn K (.ref fA) = true) (bA : Binds K fdA ["value"] []) :
    FnOk P w K mg base CX0 2 f fd ["value", "many"] spIsNum := by
  refine F.ok scIsNum (fun vs H Q E h => ?_) (fun cdv A outer s H vs Q E hr h => ?_)
  · obtain ⟨i, m, rfl, _⟩ := h
    rfl
  · obtain ⟨i, m, rfl, k⟩ := h
    refine ⟨_, pss_one (ps_ret (pe_and (pe_call GA hr rfl gA kA bA .nil pass0 (pa_cons (pv 0) pa_nil)) (pe_one (pe_chain op_le op_lt pe_int (pv 0) (pv 1))))), ?_⟩
    refine ⟨_, rfl, i, rfl, _, rfl, ifT rfl ?_⟩
    refine ⟨_, rfl, _, _, rfl, rfl, _, rfl, ?_⟩
    by_cases c : 0 ≤ i
    · refine ifT (decide_eq_true c) ⟨_, rfl, _, _, rfl, rfl, ?_⟩
      rw [decide_eq_true c, Bool.true_and] at k
      exact k
    · refine ifF (decide_eq_false c) ?_
      rw [decide_eq_false c, Bool.false_and] at k
      exact k
theorem scWrong : FnScope ["numbers", "many", "seen", "index", "number"] ["numbers", "many"] (defScope sWrong) := ⟨rfl, rfl, rfl, by decide +kernel, rfl, by decide +kernel, by decide +kernel⟩
theorem ok_wrong {f fA : Addr} {fd fdA : FuncData} (F : Fun K "wrong_number" "wrong_number" sWrong f fd) (B : Blt mg) (GA : FnOk P w K mg base CX0 2 fA fdA ["value", "many"] spIsNum) (gA : mg "is_number" = some (.ref fA)) (kA : PySem.W.keepIn K (.ref fA) = true) (bA : Binds K fdA ["value", "many"] []) :
    FnOk P w K mg base CX0 3 f fd ["numbers", "many"] spWrong := by
  refine F.ok scWrong (fun vs H Q E h => ?_) (fun cdv A outer s H vs Q E hr h => ?_)
  · obtain ⟨q, rfl, _⟩ := h
    rfl
  · obtain ⟨q, rfl, hq, k⟩ := h
    refine ⟨_, pss_cons (ps_if (pt_not (pt_val (pe_callB call_isi (by rfl) B.isi (by decide +kernel) (pa_cons (pv 0) (pa_cons (pe_bltn (v := .ty "list") rfl B.list (by decide +kernel) rfl) pa_nil))))) pss_never pss_nil)
      (pss_cons (ps_set (i := 2) scWrong.nd rfl (Or.inl rfl) (pe_callTy0 cr_set0 (by rfl) B.set (by decide +kernel)))
      (pss_cons (ps_for PassesOwn.never rfl (pi_enum (by rfl) B.enumerate (pa_cons (pv 0) pa_nil)) (pg_tup rfl (pgs_cons (pg_name (i := 3) scWrong.nd rfl (.inl rfl)) (pgs_cons (pg_name (i := 4) scWrong.nd rfl (.inl rfl)) pgs_nil)))
        (pss_cons (ps_if (PW.pt (pw_or (pt_not (pt_val (pe_call GA hr rfl gA kA bA .nil pass0 (pa_cons (pv 4) (pa_cons (pv 1) pa_nil))))) (pw_or1 pt_no))) (pss_one (ps_ret (pv 3))) pss_nil) pss_never)) pss_never)), ?_⟩
    refine ⟨_, rfl, _, _, _, _, true, rfl, .ty "list", .base (.lst hq), kit_ty (by decide +kernel), _, rfl, ifF rfl ?_⟩
    refine ⟨rfl, fun p np => ?_⟩
    have s1 : Same H (upd H p (SetO w p (fun _ => false) 0)) := same_new np
    have hq1 := s1 _ _ hq
    refine ⟨_, rfl, q, _, rfl, SqL.of hq1, for_it (walk_enum (xs := [V.int 0])) (fun i σ H2 => i = 0 ∧ σ = [some (.ref q), some (.int 0), some (.ref p), none, none] ∧ H2 = upd H p (SetO w p (fun _ => false) 0)) ⟨rfl, rfl, rfl⟩ (fun i σ H2 _ h => by rw [h.2.2]; exact SqL.of hq1) ?_ ?_⟩
    · rintro i x σ H2 H3 hi ⟨rfl, rfl, rfl⟩ ⟨t, x1, x2, rfl, nt, rfl, e1, e2⟩
      cases e1
      obtain rfl : V.int 0 = x2 := Option.some.inj e2
      refine ⟨t, _, rfl, .inl (.inl upd_same), rfl, ?_⟩
      refine ⟨_, _, rfl, _, _, rfl, rfl, ?_⟩
      refine ⟨_, rfl, _, rfl, 0, 0, rfl, _, rfl, ifT rfl (ifT rfl ?_)⟩
      exact ⟨_, rfl, k _ (s1.trans (same_new nt))⟩
    · rintro σ H2 ⟨h, _⟩
      cases h
end
end K0
namespace K0
open PySem PySem.Spec PyProof.Rows L2 L2H MXb MXd MXe MXf MXg
section
variable {P : Program} {w : World} {K : PySem.W.Frag} {mg : Str → Option Value} {base : Heap} {fI CR : Addr} {cs : Nat → Addr} {fdI : FuncData}
theorem scChkL : FnScope ["loops", "number", "loop"] ["loops"] (defScope sChkL) := ⟨rfl, rfl, rfl, by decide +kernel, rfl, by decide +kernel, by decide +kernel⟩
theorem ok_chkL {f : Addr} {fd : FuncData} (F : Fun K "check_loops" "check_loops" sChkL f fd) (B : Blt mg) : FnOk P w K mg base CX0 1 f fd ["loops"] spChkL := by
  refine F.ok scChkL (fun vs H Q E h => ?_) (fun cdv A outer s H vs Q E hr h => ?_)
  · obtain ⟨q, rfl, _⟩ := h
    rfl
  · obtain ⟨q, rfl, hq, k⟩ := h
    refine ⟨_, pss_cons (ps_if (pt_not (pt_val (pe_callB call_isi (by rfl) B.isi (by decide +kernel) (pa_cons (pv 0) (pa_cons (pe_bltn (v := .ty "list") rfl B.list (by decide +kernel) rfl) pa_nil))))) pss_never pss_nil)
      (pss_one (ps_for PassesOwn.never rfl (pi_enum (by rfl) B.enumerate (pa_cons (pv 0) pa_nil)) (pg_tup rfl (pgs_cons (pg_name (i := 1) scChkL.nd rfl (.inl rfl)) (pgs_cons (pg_name (i := 2) scChkL.nd rfl (.inl rfl)) pgs_nil))) pss_never)), ?_⟩
    refine ⟨_, rfl, _, _, _, _, true, rfl, .ty "list", .base (.lst hq), kit_ty (by decide +kernel), _, rfl, ifF rfl ?_⟩
    refine ⟨_, rfl, q, _, rfl, SqL.of hq, for_it (walk_enum (K := K) (a := q) (xs := [])) (fun i σ H2 => H2 = H) rfl (fun i σ H2 _ h => by rw [h]; exact SqL.of hq) (fun i x σ H2 H3 hi => absurd hi (Nat.not_lt_zero _)) ?_⟩
    rintro σ H2 rfl
    exact k
theorem scChkF : FnScope ["fast", "many", "index"] ["fast", "many"] (defScope sChkF) := ⟨rfl, rfl, rfl, by decide +kernel, rfl, by decide +kernel, by decide +kernel⟩
theorem ok_chkF {f fA : Addr} {fd fdA : FuncData} (F : Fun K "check_fast" "check_fast" sChkF f fd) (T : Txt K mg fI CR cs) (I : Ini P w K mg base fI fdI)
    (GA : FnOk P w K mg base CX0 3 fA fdA ["numbers", "many"] spWrong) (gA : mg "wrong_number" = some (.ref fA)) (kA : PySem.W.keepIn K (.ref fA) = true) (bA : Binds K fdA ["numbers", "many"] []) :
    FnOk P w K mg base (L2N.CX P w) 4 f fd ["fast", "many"] (spChkF cs) := by
  refine F.okC scChkF (fun vs H Q E h => ?_) (fun cdv A outer s H vs Q E hr h => ?_)
  · obtain ⟨q, rfl, _⟩ := h
    rfl
  · obtain ⟨q, rfl, hq, k⟩ := h
    refine ⟨_, pss_cons (ps_set (i := 2) scChkF.nd rfl (Or.inl rfl) (pe_call (E := E0) GA hr rfl gA kA bA .nil (fun _ _ _ _ _ _ _ z => z.elim) (pa_cons (pv 0) (pa_cons (pv 1) pa_nil))))
      (pss_one (ps_if (pt_cmpR op_notN (pv 2) pe_non (nomark _)) (pss_one (L2N.ps_raise rfl (L2N.takes_of rfl rfl rfl rfl) (pmk1 (T.c 2 (by decide)) I.ok I.bd (hr.mono (by decide)) rfl (pv 2)))) pss_nil)), ?_⟩
    refine ⟨_, rfl, _, rfl, q, rfl, hq, fun H1 s1 => ?_⟩
    refine ⟨_, rfl, rfl, _, rfl, ifT rfl ?_⟩
    exact ⟨_, rfl, fun d nd => k d _ _ (s1.trans (same_new nd)) upd_same⟩
theorem scClo : FnScope ["self", "loops", "fast"] ["self", "loops", "fast"] (defScope sClo) := ⟨rfl, rfl, rfl, by decide +kernel, rfl, by decide +kernel, by decide +kernel⟩
theorem ok_clo {f fA fB : Addr} {fd fdA fdB : FuncData} (F : Fun K "__init__" "Cloth.__init__" sClo f fd) (B : Blt mg)
    (GA : FnOk P w K mg base CX0 1 fA fdA ["loops"] spChkL) (gA : mg "check_loops" = some (.ref fA)) (kA : PySem.W.keepIn K (.ref fA) = true) (bA : Binds K fdA ["loops"] [])
    (GB : FnOk P w K mg base (L2N.CX P w) 4 fB fdB ["fast", "many"] (spChkF cs)) (gB : mg "check_fast" = some (.ref fB)) (kB : PySem.W.keepIn K (.ref fB) = true) (bB : Binds K fdB ["fast", "many"] []) :
    FnOk P w K mg base (L2N.CX P w) 5 f fd ["self", "loops", "fast"] (spClo cs) := by
  refine F.okC scClo (fun vs H Q E h => ?_) (fun cdv A outer s H vs Q E hr h => ?_)
  · obtain ⟨x, p, q, rfl, _⟩ := h
    rfl
  · obtain ⟨x, p, q, rfl, hp, hq, k⟩ := h
    refine ⟨_, pss_cons (ps_expr (pe_call (E := E0) GA (hr.mono (by decide)) rfl gA kA bA .nil (fun _ _ _ _ _ _ _ z => z.elim) (pa_cons (pv 1) pa_nil)))
      (pss_cons (ps_expr (pe_call (E := E) GB hr rfl gB kB bB .nil (L2N.passes_call (L2N.takes_of rfl rfl rfl rfl) (fun _ _ _ _ z => z)) (pa_cons (pv 2) (pa_cons (pe_callB call_len_seq (by rfl) B.len PySem.boot_len (pa_cons (pv 1) pa_nil)) pa_nil))))
      pss_never), ?_⟩
    refine ⟨_, rfl, p, rfl, hp, ?_⟩
    exact ⟨_, rfl, _, rfl, p, _, rfl, .inl (SqL.of hp), q, rfl, hq, k⟩
def tKeptSuite (K : PySem.W.Frag) (cs : Nat → Addr) (i : Nat) : Addr → Addr → Addr → TS := fun a C d => tAsg (tCallE (spMarks K cs) a C d (tCons (tVar 2) tNil)) (gName i)
theorem scKept : FnScope ["marks", "kinds_here", "e"] [] (defScope sKept) := ⟨rfl, rfl, rfl, by decide +kernel, rfl, by decide +kernel, by decide +kernel⟩
theorem ok_kept {f fM fV fC CC : Addr} {fd fdM fdV fdC : FuncData} (F : Fun K "_law_kept_right" "_law_kept_right" sKept f fd) (T : Txt K mg fI CR cs) (I : Ini P w K mg base fI fdI)
    (GM : FnE P w K mg base 1 fM fdM ["e"] (spMarks K cs)) (gM : mg "_law_marks" = some (.ref fM)) (kM : PySem.W.keepIn K (.ref fM) = true) (bM : Binds K fdM ["e"] [])
    (GV : FnOk P w K mg base CX0 3 fV fdV [] spTrue) (gV : mg "_law_values_right" = some (.ref fV)) (kV : PySem.W.keepIn K (.ref fV) = true) (bV : Binds K fdV [] [])
    (MC : Mk K CC fC) (GC : FnOk P w K mg base (L2N.CX P w) 5 fC fdC ["self", "loops", "fast"] (spClo cs)) (gC : mg "Cloth" = some (.ref CC)) (bC : Binds K fdC ["self", "loops", "fast"] []) :
    FnOk P w K mg base CX0 7 f fd [] spTrue := by
  refine F.ok scKept (fun vs H Q E h => ?_) (fun cdv A outer s H vs Q E hr h => ?_)
  · obtain ⟨rfl, _⟩ := h
    rfl
  · obtain ⟨rfl, k⟩ := h
    refine ⟨_, pss_cons (ps_par (i := 0) (j := 1) rfl scKept.nd rfl rfl (by decide) rfl rfl (pa_cons (pe_lst (pa_cons pe_bl pa_nil)) (pa_cons (pe_lst pa_nil) pa_nil)) (by rfl))
      (pss_cons (L2N.ps_try_as (i := 2) (tb := fun W => fun D σ H => tMk1 CR "value" (tC (.int 3)) σ H fun cls d H' => W cls d σ H') (ts := tErr (tKeptSuite K cs 0)) (Wout := fun _ _ _ _ => False) rfl rfl scKept.nd rfl rfl ⟨rfl, by decide, Or.inl T.r.gC⟩ none0
          (fun W pn xe tk _ => pss_one (L2N.ps_raise rfl tk (pmk1 T.r I.ok I.bd (hr.mono (by decide)) rfl pe_int)))
          (fun a oe cls d pn hz hf => ps_err hz hf fun C dd ep => pss_one (ps_set (i := 0) scKept.nd rfl (Or.inl rfl) (by exact (pe_callE (p := (a, oe)) GM (room_suite (hr.mono (by decide))) List.mem_cons_self ep rfl gM kM bM (by exact (pa_cons (pv 2) pa_nil)))))))
      (pss_cons (L2N.ps_try_as (i := 2) (tb := fun W => tDrop (tMakeS CC (spClo cs) (WE W) (tCons (tLst tNil) (tCons (tLst (tCons (tC (.int 0)) tNil)) tNil)))) (ts := tErr (tKeptSuite K cs 1)) (Wout := fun _ _ _ _ => False) rfl rfl scKept.nd rfl rfl ⟨rfl, by decide, Or.inl T.r.gC⟩ none0
          (fun W pn xe tk _ => pss_one (ps_expr (by exact (pe_makeS MC GC hr rfl gC bC (fun σ => L2N.passAt tk σ) (by exact (pa_cons (pe_lst pa_nil) (pa_cons (pe_lst (pa_cons pe_int pa_nil)) pa_nil)))))))
          (fun a oe cls d pn hz hf => ps_err hz hf fun C dd ep => pss_one (ps_set (i := 1) scKept.nd rfl (Or.inl rfl) (by exact (pe_callE (p := (a, oe)) GM (room_suite (hr.mono (by decide))) List.mem_cons_self ep rfl gM kM bM (by exact (pa_cons (pv 2) pa_nil)))))))
      (pss_one (ps_ret (pe_and (pe_not (pe_cmpR op_in_seq pe_bl (pv 0) (by rfl))) (pe_and (pe_call0 GV (hr.mono (by decide)) rfl gV kV bV .nil pass0)
        (pe_and (pe_cmpR op_eq (pe_bm PySem.F.plainAttrs_list PySem.F.slot_list_count PySem.F.type_list_count mt_countB (pv 1) (pa_cons pe_bl pa_nil)) pe_int (nomark _))
        (pe_one (pe_ix ix_list (pv 1) pe_int (fun _ _ => rfl)))))))))), ?_⟩
    refine ⟨by show 1 ≤ sizeLine; decide, fun p0 n0 => ⟨by show 0 ≤ sizeLine; decide, fun p1 n1 => ⟨_, _, rfl, ?_⟩⟩⟩
    have s1 : Same H (upd (upd H p0 (.lst [V.bl true])) p1 (.lst [])) := (same_new n0).trans (same_new n1)
    generalize upd (upd H p0 (.lst [V.bl true])) p1 (.lst []) = H1 at s1 ⊢
    -- raise RunError(3)
    refine fun d nd => ⟨true, T.er, fun _ a na => ?_, fun q => Bool.noConfusion q⟩
    have s2 : Same H1 (upd H1 d (.xd [("value", V.int 3)])) := same_new nd
    have hd : upd H1 d (.xd [("value", V.int 3)]) d = some (.xd [("value", V.int 3)]) := upd_same
    generalize upd H1 d (.xd [("value", V.int 3)]) = H2 at s2 hd na ⊢
    refine ⟨_, rfl, fun j => false, _, rfl, T.r.ec, fun j hj => T.kr j hj, hd, fun H3 q3 s3 h3 => ?_⟩
    -- Cloth([], [0])
    refine ⟨by show 0 ≤ sizeLine; decide, fun l nl => ⟨by show 1 ≤ sizeLine; decide, fun z nz => ?_⟩⟩
    have s4 : Same H3 (upd H3 l (.lst [])) := same_new nl
    have hl : upd H3 l (.lst []) l = some (.lst []) := upd_same
    generalize upd H3 l (.lst []) = H4 at s4 hl nz ⊢
    have s5 : Same H4 (upd H4 z (.lst [V.int 0])) := same_new nz
    have hz : upd H4 z (.lst [V.int 0]) z = some (.lst [V.int 0]) := upd_same
    have hl5 := s5 _ _ hl
    refine fun x dx nx ndx hne => ?_
    have s6 : Same (upd H4 z (.lst [V.int 0])) (upd (upd (upd H4 z (.lst [V.int 0])) dx (.own x)) x (.ins CC dx [])) := fun b o e => by
      rw [upd_ne (ne_of_none e nx), upd_ne (ne_of_none e ndx)]
      exact e
    refine ⟨x, l, z, rfl, s6 _ _ hl5, s6 _ _ hz, fun d2 fs H7 s7 hd7 => ?_⟩
    refine ⟨true, T.ee 2 (by decide), fun _ a2 na2 => ?_, fun q => Bool.noConfusion q⟩
    refine ⟨_, rfl, fun j => decide (2 = j), _, rfl, (T.c 2 (by decide)).ec, fun j hj => T.kk 2 j (by decide) hj, hd7, fun H8 q8 s8 h8 => ?_⟩
    have s38 : Same H3 H8 := (((s4.trans s5).trans s6).trans s7).trans s8
    have l8 : SqL K H8 q8 (((List.range 19).map fun j => decide (2 = j)).map V.bl) := SqL.of h8
    refine ⟨_, rfl, q3, _, rfl, .inl (SqL.of (s38 _ _ h3)), rfl, by decide +kernel, _, rfl, _, rfl, ifT (by decide +kernel) ?_⟩
    refine ⟨rfl, fun H9 s9 => ⟨_, rfl, ifT rfl ?_⟩⟩
    refine ⟨_, rfl, .inl ⟨rfl, _, s9.seq l8⟩, q8, _, true, rfl, rfl, s9.seq l8, rfl, _, rfl, ifT (decide_eq_true (by rw [one_mark 2 (by decide)]; rfl)) ?_⟩
    exact ⟨_, rfl, q8, _, 2, _, rfl, rfl, SqL.of (s9 _ _ h8), atI_nat (own_mark 2 (by decide)), k H9 (((s1.trans s2).trans s3).trans (s38.trans s9))⟩
end
end K0
namespace K0
open PySem PySem.Spec PyProof.Rows L2 L2H MXb MXd MXe MXf MXg
theorem ints_lay : ∀ ns : List Int, PyData.canLayAll0 (ns.map PyData.int) = true
  | [] => rfl
  | n :: r => by
    rw [List.map_cons, PyData.canLayAll0, ints_lay r]
    rfl
theorem ints_deep : ∀ ns : List Int, PyData.depthAll (ns.map PyData.int) ≤ 1
  | [] => by simp [PyData.depthAll]
  | n :: r => by
    have h := ints_deep r
    simp only [List.map_cons, PyData.depthAll, PyData.depth]
    omega
theorem ints_shaped (ns : List Int) : SeqAt.shaped (.list (ns.map PyData.int)) = true := by
  have h1 := ints_lay ns
  have h2 := ints_deep ns
  show ((PyData.list (ns.map PyData.int)).canLay0 && decide ((PyData.list (ns.map PyData.int)).depth ≤ 64)) = true
  rw [Bool.and_eq_true]
  refine ⟨?_, decide_eq_true ?_⟩
  · simp only [PyData.canLay0]
    exact h1
  · simp only [PyData.depth]
    omega
theorem ints_dp {K : PySem.W.Frag} {H : Hp} : ∀ ns : List Int, DpAll K H (ns.map V.int) (ns.map PyData.int)
  | [] => .nil
  | n :: r => .cons (.int n) (ints_dp r)
section
variable {P : Program} {w : World} {K : PySem.W.Frag} {mg : Str → Option Value} {base : Heap} {fI CR : Addr} {cs : Nat → Addr} {fdI : FuncData}
theorem scLaw : FnScope ["script", "many", "spot", "way"] ["script"] (defScope sLaw) := ⟨rfl, rfl, rfl, by decide +kernel, rfl, by decide +kernel, by decide +kernel⟩
def tTail (K : PySem.W.Frag) : TS := tSeq (tIfS (tOr (tNot (tB (tCall spWay [] E0 (tCons (tVar 2) (tCons (tVar 1) tNil))))) (tNot (tB (tCall spTrue [] E0 tNil)))) (tRet (tC (V.bl false))) tNext)
  (tRet (tOp (rEqD K) (tLc (iRng1 (tCons (tVar 1) tNil)) (gName 3) (tNot (tB (tCall spWay [] E0 (tCons (tVar 3) (tCons (tVar 1) tNil))))) (tVar 3) [3]) (tLst tNil)))
theorem tail_ok {K : PySem.W.Frag} {Q : VK} {D : Ends} {a : Addr} (i : Nat) (hi : i < 19) (x : Int) (ex : x = i) (H : Hp) (e : D.rt = Q) (k : ∀ H', Q (.bl true) H') : tTail K D [some (.ref a), some (.int 19), some (.int x), none] H := by
  subst e
  subst ex
  refine ⟨_, rfl, _, rfl, i, hi, rfl, fun H1 _ => ⟨_, rfl, ifF rfl ⟨rfl, fun H2 _ => ⟨_, rfl, ifF rfl ?_⟩⟩⟩⟩
  refine ⟨_, rfl, 19, rfl, by decide, by decide, fun L nL => ?_⟩
  refine lc_range (lo := 0) (n := 19) (fun j H' => H' L = some (.lst [])) upd_same (fun j H' hj hL => ⟨rfl, ?_⟩) (fun H' hL => ?_)
  · refine ⟨_, rfl, _, rfl, j, hj, by rw [Int.zero_add]; rfl, fun H3 s3 => ⟨_, rfl, ifF rfl (s3 _ _ hL)⟩⟩
  · refine ⟨by show 0 ≤ sizeLine; decide, fun p np => ?_⟩
    have s1 : Same H' (upd H' p (.lst [])) := same_new np
    refine ⟨_, _, .lst (SqL.of (s1 _ _ hL)) .nil, .lst (SqL.of upd_same) .nil, by decide +kernel, by decide +kernel, ?_⟩
    exact k _
theorem ok_law {f fW fK : Addr} {fd fdW fdK : FuncData} (F : Fun K "law" "law" sLaw f fd) (T : Txt K mg fI CR cs)
    (GW : FnOk P w K mg base CX0 5 fW fdW ["way", "many"] spWay) (gW : mg "_law_way_right" = some (.ref fW)) (kW : PySem.W.keepIn K (.ref fW) = true) (bW : Binds K fdW ["way", "many"] [])
    (GK : FnOk P w K mg base CX0 7 fK fdK [] spTrue) (gK : mg "_law_kept_right" = some (.ref fK)) (kK : PySem.W.keepIn K (.ref fK) = true) (bK : Binds K fdK [] []) :
    FnOk P w K mg base CX0 8 f fd ["script"] (spLaw K) := by
  refine F.ok scLaw (fun vs H Q E h => ?_) (fun cdv A outer s H vs Q E hr h => ?_)
  · obtain ⟨a, ns, rfl, _⟩ := h
    rfl
  · obtain ⟨a, ns, rfl, hS, hl, k⟩ := h
    have hr5 : Room 5 _ := hr.mono (by decide)
    refine ⟨_, pss_cons (ps_set (i := 1) scLaw.nd rfl (Or.inr rfl) pe_int)
      (pss_cons (ps_set (i := 2) scLaw.nd rfl (Or.inl rfl) (pe_ifExp (pt_cmpR (op_neD hr.units) (pv 0) (pe_lst pa_nil) (nomark _))
          (pe_op op_modN (pe_callTy call_int1 (by rfl) T.int (by decide +kernel) (pa_cons (pe_ix ix_list (pv 0) pe_int (fun _ _ => rfl)) pa_nil)) (pv 1)) pe_int))
      (pss_cons (ps_if (PW.pt (pw_or (pt_not (pt_val (pe_call GW hr5 rfl gW kW bW .nil pass0 (pa_cons (pv 2) (pa_cons (pv 1) pa_nil))))) (pw_or1 (pt_not (pt_val (pe_call0 GK hr rfl gK kK bK .nil pass0)))))) (pss_one (ps_ret pe_bl)) pss_nil)
      (pss_one (ps_ret (pe_cmpR (op_eqD hr.units)
        (pe_lc (own := [("way", 3)]) (g := gName 3) rfl scLaw.nd (pi_range1 (by rfl) T.range (pa_cons (pv 1) pa_nil)) (blkOk_by (N := ["script", "many", "spot", "way"]) (sc := defScope sLaw) (by decide +kernel))
          (fun _ _ _ _ _ => pg_name (i := 3) scLaw.nd rfl (Or.inl rfl)) (fun _ _ _ _ _ => pts_one (pt_not (pt_val (pe_call GW hr5 rfl gW kW bW .nil pass0 (pa_cons (pv 3) (pa_cons (pv 1) pa_nil)))))) (fun _ _ _ _ _ => pv 3))
        (pe_lst pa_nil) (nomark _)))))), ?_⟩
    refine ⟨_, rfl, by show 0 ≤ sizeLine; decide, fun p np => ?_⟩
    have s1 : Same H (upd H p (.lst [])) := same_new np
    have hp : upd H p (.lst []) p = some (.lst []) := upd_same
    have hS1 := s1.seq hS
    refine ⟨_, _, .lst hS1 (ints_dp ns), .lst (SqL.of hp) .nil, ints_shaped ns, by decide +kernel, _, rfl, ?_⟩
    cases ns with
    | nil =>
      refine ifF rfl ?_
      exact tail_ok 0 (by decide) 0 rfl _ rfl k
    | cons n r =>
      refine ifT rfl ?_
      refine ⟨_, rfl, a, _, 0, _, rfl, rfl, hS1, atI_nat (j := 0) rfl, .inl ⟨_, rfl, _, rfl, _, _, rfl, rfl, (show (19 : Int) ≠ 0 by decide), ?_⟩⟩
      have b0 : 0 ≤ n.fmod 19 := Int.fmod_nonneg_of_pos n (by decide)
      have b1 : n.fmod 19 < 19 := Int.fmod_lt_of_pos n (by decide)
      obtain ⟨i, ei⟩ : ∃ i : Nat, n.fmod 19 = (i : Int) := ⟨(n.fmod 19).toNat, by omega⟩
      exact tail_ok i (by omega) _ ei _ rfl k
end
end K0
namespace K0
open PySem PySem.Spec PyProof.Rows L2 L2H MXb MXd MXe MXf MXg
/-- the facts of an error class that are reckoned at once -/
def chk1 (K : PySem.W.Frag) (fI C : Addr) : Bool :=
  decide (PySem.W.findIn K (.ref C) "__setattr__" = some (some (.builtin "object.__setattr__"))) && (decide (PySem.W.subIn K (.ref C) (.type "BaseException") = some true) && (decide (PySem.W.typeIn K (.ref C) = some (.type "type")) &&
  (PySem.W.keepIn K (.ref C) && (decide (PySem.W.findIn K (.ref C) "__init__" = some (some (.ref fI))) && (decide (PySem.W.typeIn K (.ref fI) = some (.type "function")) && (decide (PySem.W.findIn K (.ref C) "value" = some none) &&
  (decide (PySem.W.findIn K (.ref C) "__getattribute__" = some (some (.builtin "BaseException.__getattribute__"))) && (decide (PySem.W.findIn K (.ref C) "__getattr__" = some none) && (PySem.W.hasDictIn K C &&
  (decide (PySem.W.findIn K (.ref C) "__class__" = some (some (.builtin "object.__class__"))) && (decide (PySem.W.specialIn K (.builtin "object.__class__") "__get__" = some (some (.builtin "getset_descriptor.__get__"))) &&
  (decide (PySem.W.takesIn K (.builtin "object.__class__") = some true) && decide (PySem.W.mroIn K C (.type "object") = some true)))))))))))))
/-- the class object -/
def ClsX (K : PySem.W.Frag) (C : Addr) : Prop := ∃ nm q N bs bm sn sub ab col dd k0 k1 k2 k3 k5, K.lookup C = some (excClassObj nm q C N bs bm true sn sub ab col dd k0 k1 k2 k3 k5 "ValueError.__new__") ∧ PySem.HandSPX.refsVE bm = true
theorem clsx_mk {K : PySem.W.Frag} {C : Addr} {nm q : Str} {N : Addr} {bs bm : List Value} {sn : List Str} {sub : List Value} {ab : Bool} {col : Option Bool} {dd : Option Addr} {k0 k1 k2 k3 k5 : Option Value}
    (e : K.lookup C = some (excClassObj nm q C N bs bm true sn sub ab col dd k0 k1 k2 k3 k5 "ValueError.__new__")) (r : PySem.HandSPX.refsVE bm = true) : ClsX K C := ⟨_, _, _, _, _, _, _, _, _, _, _, _, _, _, _, e, r⟩
theorem xc_of {K : PySem.W.Frag} {mg : Str → Option Value} {fI C : Addr} {nm : Str} (g : mg nm = some (.ref C)) (x : ClsX K C) (c : chk1 K fI C = true) : XC K mg fI C nm "value" := by
  unfold chk1 at c
  simp only [Bool.and_eq_true, decide_eq_true_eq] at c
  obtain ⟨h1, h2, h3, h4, h5, h6, h7, h8, h9, h10, h11, h12, h13, h14⟩ := c
  exact ⟨g, ⟨x, h1, h2, h3, h4⟩, h5, h6, h7, ⟨h8, h9, h2, h10⟩, ⟨h8, h9, h2, h10, h11, h12, h13, h14⟩⟩
/-- the facts of two classes -/
def chk2 (K : PySem.W.Frag) (CR : Addr) (cl : List Addr) : Bool :=
  (List.range 19).all fun i => (decide (PySem.W.exmOne K (.ref (cl.getD i 0)) (.ref CR) = some true) && decide (PySem.W.kitOne K (.ref (cl.getD i 0)) (.type "ValueError") = some true)) &&
    (decide (PySem.W.kitOne K (.ref CR) (.ref (cl.getD i 0)) = some false) && (List.range 19).all fun j => decide (PySem.W.kitOne K (.ref (cl.getD i 0)) (.ref (cl.getD j 0)) = some (decide (i = j))))
theorem chk2_at {K : PySem.W.Frag} {CR : Addr} {cl : List Addr} (h : chk2 K CR cl = true) (i : Nat) (hi : i < 19) : PySem.W.exmOne K (.ref (cl.getD i 0)) (.ref CR) = some true ∧ PySem.W.kitOne K (.ref (cl.getD i 0)) (.type "ValueError") = some true ∧
    PySem.W.kitOne K (.ref CR) (.ref (cl.getD i 0)) = some false ∧ ∀ j, j < 19 → PySem.W.kitOne K (.ref (cl.getD i 0)) (.ref (cl.getD j 0)) = some (decide (i = j)) := by
  have q := List.all_eq_true.mp h i (List.mem_range.mpr hi)
  simp only [Bool.and_eq_true, decide_eq_true_eq] at q
  obtain ⟨⟨q1, q2⟩, q3, q4⟩ := q
  refine ⟨q1, q2, q3, fun j hj => ?_⟩
  exact of_decide_eq_true (List.all_eq_true.mp q4 j (List.mem_range.mpr hj))
def blts : List Str := ["isinstance", "len", "int", "range", "ValueError", "bool", "list", "set", "enumerate"]
def chk3 (K : PySem.W.Frag) : Bool := blts.all fun n => decide (PySem.W.nsIn K mainGlobals n = some none)

theorem all_mk {P : Program} {w : World} {K : PySem.W.Frag} {h : Heap} {mg : Str → Option Value} {fa CR CC C0 C1 C2 C3 C4 C5 C6 C7 C8 C9 C10 C11 C12 C13 C14 C15 C16 C17 C18 f_one f_more f_marks f_way f_kept f_vals f_law f_isint f_isnum f_wrong f_chkL f_chkF f_init f_clo : Addr} (X : K.In h) (G : h.Ns mainGlobals mg) (hfa : mg "law" = some (.ref fa))
    {od_one an_one : Option Addr} {sl_one : Array (Option Value)} {oc_one kV_one dc_one pm_one cd_one ct_one : Value}
    {od_more an_more : Option Addr} {sl_more : Array (Option Value)} {oc_more kV_more dc_more pm_more cd_more ct_more : Value}
    {od_marks an_marks : Option Addr} {sl_marks : Array (Option Value)} {oc_marks kV_marks dc_marks pm_marks cd_marks ct_marks : Value}
    {od_way an_way : Option Addr} {sl_way : Array (Option Value)} {oc_way kV_way dc_way pm_way cd_way ct_way : Value}
    {od_kept an_kept : Option Addr} {sl_kept : Array (Option Value)} {oc_kept kV_kept dc_kept pm_kept cd_kept ct_kept : Value}
    {od_vals an_vals : Option Addr} {sl_vals : Array (Option Value)} {oc_vals kV_vals dc_vals pm_vals cd_vals ct_vals : Value}
    {od_law an_law : Option Addr} {sl_law : Array (Option Value)} {oc_law kV_law dc_law pm_law cd_law ct_law : Value}
    {od_isint an_isint : Option Addr} {sl_isint : Array (Option Value)} {oc_isint kV_isint dc_isint pm_isint cd_isint ct_isint : Value}
    {od_isnum an_isnum : Option Addr} {sl_isnum : Array (Option Value)} {oc_isnum kV_isnum dc_isnum pm_isnum cd_isnum ct_isnum : Value}
    {od_wrong an_wrong : Option Addr} {sl_wrong : Array (Option Value)} {oc_wrong kV_wrong dc_wrong pm_wrong cd_wrong ct_wrong : Value}
    {od_chkL an_chkL : Option Addr} {sl_chkL : Array (Option Value)} {oc_chkL kV_chkL dc_chkL pm_chkL cd_chkL ct_chkL : Value}
    {od_chkF an_chkF : Option Addr} {sl_chkF : Array (Option Value)} {oc_chkF kV_chkF dc_chkF pm_chkF cd_chkF ct_chkF : Value}
    {od_init an_init : Option Addr} {sl_init : Array (Option Value)} {oc_init kV_init dc_init pm_init cd_init ct_init : Value}
    {od_clo an_clo : Option Addr} {sl_clo : Array (Option Value)} {oc_clo kV_clo dc_clo pm_clo cd_clo ct_clo : Value}
    (aR : PySem.W.nsIn K mainGlobals "RunError" = some (some (.ref CR))) (xR : ClsX K CR)
    (a0 : PySem.W.nsIn K mainGlobals "InvalidChart" = some (some (.ref C0))) (x0 : ClsX K C0)
    (a1 : PySem.W.nsIn K mainGlobals "InvalidEnds" = some (some (.ref C1))) (x1 : ClsX K C1)
    (a2 : PySem.W.nsIn K mainGlobals "InvalidFast" = some (some (.ref C2))) (x2 : ClsX K C2)
    (a3 : PySem.W.nsIn K mainGlobals "InvalidLoop" = some (some (.ref C3))) (x3 : ClsX K C3)
    (a4 : PySem.W.nsIn K mainGlobals "InvalidLoops" = some (some (.ref C4))) (x4 : ClsX K C4)
    (a5 : PySem.W.nsIn K mainGlobals "InvalidLot" = some (some (.ref C5))) (x5 : ClsX K C5)
    (a6 : PySem.W.nsIn K mainGlobals "InvalidOrder" = some (some (.ref C6))) (x6 : ClsX K C6)
    (a7 : PySem.W.nsIn K mainGlobals "InvalidPins" = some (some (.ref C7))) (x7 : ClsX K C7)
    (a8 : PySem.W.nsIn K mainGlobals "InvalidPlace" = some (some (.ref C8))) (x8 : ClsX K C8)
    (a9 : PySem.W.nsIn K mainGlobals "InvalidRow" = some (some (.ref C9))) (x9 : ClsX K C9)
    (a10 : PySem.W.nsIn K mainGlobals "InvalidSize" = some (some (.ref C10))) (x10 : ClsX K C10)
    (a11 : PySem.W.nsIn K mainGlobals "InvalidText" = some (some (.ref C11))) (x11 : ClsX K C11)
    (a12 : PySem.W.nsIn K mainGlobals "InvalidWidth" = some (some (.ref C12))) (x12 : ClsX K C12)
    (a13 : PySem.W.nsIn K mainGlobals "LeftOver" = some (some (.ref C13))) (x13 : ClsX K C13)
    (a14 : PySem.W.nsIn K mainGlobals "NothingToUndo" = some (some (.ref C14))) (x14 : ClsX K C14)
    (a15 : PySem.W.nsIn K mainGlobals "TooFew" = some (some (.ref C15))) (x15 : ClsX K C15)
    (a16 : PySem.W.nsIn K mainGlobals "Unbalanced" = some (some (.ref C16))) (x16 : ClsX K C16)
    (a17 : PySem.W.nsIn K mainGlobals "Unfit" = some (some (.ref C17))) (x17 : ClsX K C17)
    (a18 : PySem.W.nsIn K mainGlobals "WouldRun" = some (some (.ref C18))) (x18 : ClsX K C18)
    (aC : PySem.W.nsIn K mainGlobals "Cloth" = some (some (.ref CC))) (mC : PySem.W.makesIn K CC = true) (kC : PySem.W.keepIn K (.ref CC) = true)
    (n_one : PySem.W.nsIn K mainGlobals "_law_raised_one" = some (some (.ref f_one)))
    (n_more : PySem.W.nsIn K mainGlobals "_law_raised_more" = some (some (.ref f_more)))
    (n_marks : PySem.W.nsIn K mainGlobals "_law_marks" = some (some (.ref f_marks)))
    (n_way : PySem.W.nsIn K mainGlobals "_law_way_right" = some (some (.ref f_way)))
    (n_kept : PySem.W.nsIn K mainGlobals "_law_kept_right" = some (some (.ref f_kept)))
    (n_vals : PySem.W.nsIn K mainGlobals "_law_values_right" = some (some (.ref f_vals)))
    (n_law : PySem.W.nsIn K mainGlobals "law" = some (some (.ref f_law)))
    (n_isint : PySem.W.nsIn K mainGlobals "is_integer" = some (some (.ref f_isint)))
    (n_isnum : PySem.W.nsIn K mainGlobals "is_number" = some (some (.ref f_isnum)))
    (n_wrong : PySem.W.nsIn K mainGlobals "wrong_number" = some (some (.ref f_wrong)))
    (n_chkL : PySem.W.nsIn K mainGlobals "check_loops" = some (some (.ref f_chkL)))
    (n_chkF : PySem.W.nsIn K mainGlobals "check_fast" = some (some (.ref f_chkF)))
    (n_init : PySem.W.findIn K (.ref CR) "__init__" = some (some (.ref f_init))) (i_init : PySem.W.isFn K (.ref f_init) = true)
    (n_clo : PySem.W.findIn K (.ref CC) "__init__" = some (some (.ref f_clo))) (i_clo : PySem.W.isFn K (.ref f_clo) = true)
    (l_one : K.lookup f_one = some ⟨oc_one, od_one, .func (PySem.W.fnOf "_law_raised_one" "_law_raised_one" (defArgs sOne) (defBody sOne) (defScope sOne) .none kV_one dc_one pm_one an_one cd_one ct_one), sl_one⟩) (c_one : PySem.W.codeIn K cd_one "_law_raised_one" = true) (k_one : PySem.W.keepIn K (.ref f_one) = true)
    (l_more : K.lookup f_more = some ⟨oc_more, od_more, .func (PySem.W.fnOf "_law_raised_more" "_law_raised_more" (defArgs sMore) (defBody sMore) (defScope sMore) .none kV_more dc_more pm_more an_more cd_more ct_more), sl_more⟩) (c_more : PySem.W.codeIn K cd_more "_law_raised_more" = true) (k_more : PySem.W.keepIn K (.ref f_more) = true)
    (l_marks : K.lookup f_marks = some ⟨oc_marks, od_marks, .func (PySem.W.fnOf "_law_marks" "_law_marks" (defArgs sMarks) (defBody sMarks) (defScope sMarks) .none kV_marks dc_marks pm_marks an_marks cd_marks ct_marks), sl_marks⟩) (c_marks : PySem.W.codeIn K cd_marks "_law_marks" = true) (k_marks : PySem.W.keepIn K (.ref f_marks) = true)
    (l_way : K.lookup f_way = some ⟨oc_way, od_way, .func (PySem.W.fnOf "_law_way_right" "_law_way_right" (defArgs sWay) (defBody sWay) (defScope sWay) .none kV_way dc_way pm_way an_way cd_way ct_way), sl_way⟩) (c_way : PySem.W.codeIn K cd_way "_law_way_right" = true) (k_way : PySem.W.keepIn K (.ref f_way) = true)
    (l_kept : K.lookup f_kept = some ⟨oc_kept, od_kept, .func (PySem.W.fnOf "_law_kept_right" "_law_kept_right" (defArgs sKept) (defBody sKept) (defScope sKept) .none kV_kept dc_kept pm_kept an_kept cd_kept ct_kept), sl_kept⟩) (c_kept : PySem.W.codeIn K cd_kept "_law_kept_right" = true) (k_kept : PySem.W.keepIn K (.ref f_kept) = true)
    (l_vals : K.lookup f_vals = some ⟨oc_vals, od_vals, .func (PySem.W.fnOf "_law_values_right" "_law_values_right" (defArgs sVals) (defBody sVals) (defScope sVals) .none kV_vals dc_vals pm_vals an_vals cd_vals ct_vals), sl_vals⟩) (c_vals : PySem.W.codeIn K cd_vals "_law_values_right" = true) (k_vals : PySem.W.keepIn K (.ref f_vals) = true)
    (l_law : K.lookup f_law = some ⟨oc_law, od_law, .func (PySem.W.fnOf "law" "law" (defArgs sLaw) (defBody sLaw) (defScope sLaw) .none kV_law dc_law pm_law an_law cd_law ct_law), sl_law⟩) (c_law : PySem.W.codeIn K cd_law "law" = true) (k_law : PySem.W.keepIn K (.ref f_law) = true)
    (l_isint : K.lookup f_isint = some ⟨oc_isint, od_isint, .func (PySem.W.fnOf "is_integer" "is_integer" (defArgs sIsInt) (defBody sIsInt) (defScope sIsInt) .none kV_isint dc_isint pm_isint an_isint cd_isint ct_isint), sl_isint⟩) (c_isint : PySem.W.codeIn K cd_isint "is_integer" = true) (k_isint : PySem.W.keepIn K (.ref f_isint) = true)
    (l_isnum : K.lookup f_isnum = some ⟨oc_isnum, od_isnum, .func (PySem.W.fnOf "is_number" "is_number" (defArgs sIsNum) (defBody sIsNum) (defScope sIsNum) .none kV_isnum dc_isnum pm_isnum an_isnum cd_isnum ct_isnum), sl_isnum⟩) (c_isnum : PySem.W.codeIn K cd_isnum "is_number" = true) (k_isnum : PySem.W.keepIn K (.ref f_isnum) = true)
    (l_wrong : K.lookup f_wrong = some ⟨oc_wrong, od_wrong, .func (PySem.W.fnOf "wrong_number" "wrong_number" (defArgs sWrong) (defBody sWrong) (defScope sWrong) .none kV_wrong dc_wrong pm_wrong an_wrong cd_wrong ct_wrong), sl_wrong⟩) (c_wrong : PySem.W.codeIn K cd_wrong "wrong_number" = true) (k_wrong : PySem.W.keepIn K (.ref f_wrong) = true)
    (l_chkL : K.lookup f_chkL = some ⟨oc_chkL, od_chkL, .func (PySem.W.fnOf "check_loops" "check_loops" (defArgs sChkL) (defBody sChkL) (defScope sChkL) .none kV_chkL dc_chkL pm_chkL an_chkL cd_chkL ct_chkL), sl_chkL⟩) (c_chkL : PySem.W.codeIn K cd_chkL "check_loops" = true) (k_chkL : PySem.W.keepIn K (.ref f_chkL) = true)
    (l_chkF : K.lookup f_chkF = some ⟨oc_chkF, od_chkF, .func (PySem.W.fnOf "check_fast" "check_fast" (defArgs sChkF) (defBody sChkF) (defScope sChkF) .none kV_chkF dc_chkF pm_chkF an_chkF cd_chkF ct_chkF), sl_chkF⟩) (c_chkF : PySem.W.codeIn K cd_chkF "check_fast" = true) (k_chkF : PySem.W.keepIn K (.ref f_chkF) = true)
    (l_init : K.lookup f_init = some ⟨oc_init, od_init, .func (PySem.W.fnOf "__init__" "RunError.__init__" (defArgs sInit) (defBody sInit) (defScope sInit) .none kV_init dc_init pm_init an_init cd_init ct_init), sl_init⟩) (c_init : PySem.W.codeIn K cd_init "RunError.__init__" = true) (k_init : PySem.W.keepIn K (.ref f_init) = true)
    (l_clo : K.lookup f_clo = some ⟨oc_clo, od_clo, .func (PySem.W.fnOf "__init__" "Cloth.__init__" (defArgs sClo) (defBody sClo) (defScope sClo) .none kV_clo dc_clo pm_clo an_clo cd_clo ct_clo), sl_clo⟩) (c_clo : PySem.W.codeIn K cd_clo "Cloth.__init__" = true) (k_clo : PySem.W.keepIn K (.ref f_clo) = true)
    (h1 : ([CR, C0, C1, C2, C3, C4, C5, C6, C7, C8, C9, C10, C11, C12, C13, C14, C15, C16, C17, C18]).all (chk1 K f_init) = true) (h2 : chk2 K CR [C0, C1, C2, C3, C4, C5, C6, C7, C8, C9, C10, C11, C12, C13, C14, C15, C16, C17, C18] = true) (h3 : chk3 K = true) (h4 : PySem.W.exmOne K (.ref CR) (.ref CR) = some true) :
    ∃ fd : FuncData, (∀ (s : Shared) (v : Value), BindsTo s fd ⟨[v], []⟩ [("script", v)]) ∧ ∀ base : Heap, K.In base → base.Ns mainGlobals mg → FnOk P w K mg base CX0 8 fa fd ["script"] (spLaw K) := by
  have e := hfa.symm.trans (PySem.W.mg_of X G n_law)
  cases e
  have q1 := List.all_eq_true.mp h1
  have none : ∀ n, n ∈ blts → mg n = Option.none := fun n hn => PySem.W.mg_none_of X G (of_decide_eq_true (List.all_eq_true.mp h3 n hn))
  have T : Txt K mg f_init CR (fun i => ([C0, C1, C2, C3, C4, C5, C6, C7, C8, C9, C10, C11, C12, C13, C14, C15, C16, C17, C18] : List Addr).getD i 0) :=
    { r := xc_of (PySem.W.mg_of X G aR) xR (q1 _ (by simp)), er := h4,
      c := fun i hi => match i, hi with
        | 0, _ => xc_of (PySem.W.mg_of X G a0) x0 (q1 _ (by simp))
        | 1, _ => xc_of (PySem.W.mg_of X G a1) x1 (q1 _ (by simp))
        | 2, _ => xc_of (PySem.W.mg_of X G a2) x2 (q1 _ (by simp))
        | 3, _ => xc_of (PySem.W.mg_of X G a3) x3 (q1 _ (by simp))
        | 4, _ => xc_of (PySem.W.mg_of X G a4) x4 (q1 _ (by simp))
        | 5, _ => xc_of (PySem.W.mg_of X G a5) x5 (q1 _ (by simp))
        | 6, _ => xc_of (PySem.W.mg_of X G a6) x6 (q1 _ (by simp))
        | 7, _ => xc_of (PySem.W.mg_of X G a7) x7 (q1 _ (by simp))
        | 8, _ => xc_of (PySem.W.mg_of X G a8) x8 (q1 _ (by simp))
        | 9, _ => xc_of (PySem.W.mg_of X G a9) x9 (q1 _ (by simp))
        | 10, _ => xc_of (PySem.W.mg_of X G a10) x10 (q1 _ (by simp))
        | 11, _ => xc_of (PySem.W.mg_of X G a11) x11 (q1 _ (by simp))
        | 12, _ => xc_of (PySem.W.mg_of X G a12) x12 (q1 _ (by simp))
        | 13, _ => xc_of (PySem.W.mg_of X G a13) x13 (q1 _ (by simp))
        | 14, _ => xc_of (PySem.W.mg_of X G a14) x14 (q1 _ (by simp))
        | 15, _ => xc_of (PySem.W.mg_of X G a15) x15 (q1 _ (by simp))
        | 16, _ => xc_of (PySem.W.mg_of X G a16) x16 (q1 _ (by simp))
        | 17, _ => xc_of (PySem.W.mg_of X G a17) x17 (q1 _ (by simp))
        | 18, _ => xc_of (PySem.W.mg_of X G a18) x18 (q1 _ (by simp))
        | n + 19, hi => absurd hi (by omega)
      ee := fun i hi => (chk2_at h2 i hi).1, kv := fun i hi => (chk2_at h2 i hi).2.1, kr := fun i hi => (chk2_at h2 i hi).2.2.1, kk := fun i j hi hj => (chk2_at h2 i hi).2.2.2 j hj,
      isi := none _ (by decide), len := none _ (by decide), int := none _ (by decide), range := none _ (by decide), verr := none _ (by decide) }
  have B : Blt mg := ⟨none _ (by decide), none _ (by decide), none _ (by decide), none _ (by decide), none _ (by decide), none _ (by decide), none _ (by decide)⟩
  have F_one := fun_mk (st := sOne) l_one c_one k_one
  have b_one := F_one.binds (ps := ["way"]) fun _ _ _ _ _ _ us hl => match us, hl with | [_], _ => rfl
  have F_more := fun_mk (st := sMore) l_more c_more k_more
  have b_more := F_more.binds (ps := ["way"]) fun _ _ _ _ _ _ us hl => match us, hl with | [_], _ => rfl
  have F_marks := fun_mk (st := sMarks) l_marks c_marks k_marks
  have b_marks := F_marks.binds (ps := ["e"]) fun _ _ _ _ _ _ us hl => match us, hl with | [_], _ => rfl
  have F_way := fun_mk (st := sWay) l_way c_way k_way
  have b_way := F_way.binds (ps := ["way", "many"]) fun _ _ _ _ _ _ us hl => match us, hl with | [_, _], _ => rfl
  have F_kept := fun_mk (st := sKept) l_kept c_kept k_kept
  have b_kept := F_kept.binds (ps := []) fun _ _ _ _ _ _ us hl => match us, hl with | [], _ => rfl
  have F_vals := fun_mk (st := sVals) l_vals c_vals k_vals
  have b_vals := F_vals.binds (ps := []) fun _ _ _ _ _ _ us hl => match us, hl with | [], _ => rfl
  have F_law := fun_mk (st := sLaw) l_law c_law k_law
  have F_isint := fun_mk (st := sIsInt) l_isint c_isint k_isint
  have b_isint := F_isint.binds (ps := ["value"]) fun _ _ _ _ _ _ us hl => match us, hl with | [_], _ => rfl
  have F_isnum := fun_mk (st := sIsNum) l_isnum c_isnum k_isnum
  have b_isnum := F_isnum.binds (ps := ["value", "many"]) fun _ _ _ _ _ _ us hl => match us, hl with | [_, _], _ => rfl
  have F_wrong := fun_mk (st := sWrong) l_wrong c_wrong k_wrong
  have b_wrong := F_wrong.binds (ps := ["numbers", "many"]) fun _ _ _ _ _ _ us hl => match us, hl with | [_, _], _ => rfl
  have F_chkL := fun_mk (st := sChkL) l_chkL c_chkL k_chkL
  have b_chkL := F_chkL.binds (ps := ["loops"]) fun _ _ _ _ _ _ us hl => match us, hl with | [_], _ => rfl
  have F_chkF := fun_mk (st := sChkF) l_chkF c_chkF k_chkF
  have b_chkF := F_chkF.binds (ps := ["fast", "many"]) fun _ _ _ _ _ _ us hl => match us, hl with | [_, _], _ => rfl
  have F_init := fun_mk (st := sInit) l_init c_init k_init
  have b_init := F_init.binds (ps := ["self", "value"]) fun _ _ _ _ _ _ us hl => match us, hl with | [_, _], _ => rfl
  have F_clo := fun_mk (st := sClo) l_clo c_clo k_clo
  have b_clo := F_clo.binds (ps := ["self", "loops", "fast"]) fun _ _ _ _ _ _ us hl => match us, hl with | [_, _, _], _ => rfl
  have bd : Bind1 K (PySem.W.fnOf "__init__" "RunError.__init__" (defArgs sInit) (defBody sInit) (defScope sInit) .none kV_init dc_init pm_init an_init cd_init ct_init) "value" := ⟨fun s a u _ => .of_eq rfl, fun s a u _ => .of_eq rfl⟩
  have m : ∀ {n : Str} {f : Addr}, PySem.W.nsIn K mainGlobals n = some (some (.ref f)) → mg n = some (.ref f) := fun q => PySem.W.mg_of X G q
  refine ⟨PySem.W.fnOf "law" "law" (defArgs sLaw) (defBody sLaw) (defScope sLaw) .none kV_law dc_law pm_law an_law cd_law ct_law, fun s v => .of_eq rfl, fun base _ _ => ?_⟩
  have I : Ini P w K mg base f_init _ := ⟨ok_init F_init, bd⟩
  have GMore := ok_more (P := P) (w := w) (base := base) F_more T I
  have GOne := ok_one F_one T I GMore (m n_more) k_more b_more
  have GMarks := ok_marks (P := P) (w := w) (mg := mg) (base := base) F_marks T
  have GWay := ok_way F_way T GOne (m n_one) k_one b_one GMarks (m n_marks) k_marks b_marks
  have GVals := ok_vals F_vals T I
  have GInt := ok_isint (P := P) (w := w) (base := base) F_isint B
  have GNum := ok_isnum F_isnum GInt (m n_isint) k_isint b_isint
  have GWrong := ok_wrong F_wrong B GNum (m n_isnum) k_isnum b_isnum
  have GChkL := ok_chkL (P := P) (w := w) (base := base) F_chkL B
  have GChkF := ok_chkF F_chkF T I GWrong (m n_wrong) k_wrong b_wrong
  have GClo := ok_clo F_clo B GChkL (m n_chkL) k_chkL b_chkL GChkF (m n_chkF) k_chkF b_chkF
  have GKept := ok_kept F_kept T I GMarks (m n_marks) k_marks b_marks GVals (m n_vals) k_vals b_vals ⟨mC, n_clo, i_clo, kC⟩ GClo (m aC) b_clo
  exact ok_law F_law T GWay (m n_way) k_way b_way GKept (m n_kept) k_kept b_kept
theorem walk {l : PySem.W.OpenLaw} {q : Program} {loose : List Str} {XP : (Str → Option Value) → Heap → Prop} {YP : World → Heap → Prop} {d : DefRec} {K : Params → PySem.W.Frag} (hn : l.most = some 63) (hdf : d.params.defaults = [])
    (hY : ∀ (w : World) (h : Heap), YP w h → (K w.params).In h)
    (F : ∀ (w : World) (mg : Str → Option Value) (fa : Addr) (h : Heap), (K w.params).In h → h.Ns mainGlobals mg → mg d.name = some (.ref fa) →
      ∃ fd : FuncData, (∀ (s : Shared) (u : Value), BindsTo s fd ⟨[u], []⟩ [("script", u)]) ∧ ∀ base : Heap, (K w.params).In base → base.Ns mainGlobals mg → FnOk l.prog w (K w.params) mg base CX0 8 fa fd ["script"] (spLaw (K w.params))) :
    PySem.W.WalkO q loose XP YP l.row.toRowW d [] (fun f vs => PySem.call f vs) :=
  L2.walk_of (n := 63) (k := 8) (x := "script") (CX := fun _ => CX0) (sp := fun w => spLaw (K w.params)) hn (by decide) hdf ⟨rfl, by decide, by decide⟩ hY F (fun _ _ a ns hl _ hS => ⟨a, ns, rfl, hS, hl, fun _ => rfl⟩) fun _ _ _ _ _ z => z
end K0
open PySem PySem.W PyProof.Rows
set_option maxRecDepth 100000 in
set_option maxHeartbeats 0 in
theorem PySem.Challenge.cw_runsdown_k00_error_classes_holds : PySem.Challenge.rw_runsdown_k00_error_classes.Holds := by
  w_on; o_law; k_head; (case hw => w_witness2)
  k_fill
  refine K0.walk (l := PySem.Challenge.rw_runsdown_k00_error_classes) rfl rfl (fun w h Y => PySem.W.kIn_of Y) ?F
  case F =>
    intro w mg fa h KX G hmg
    refine' K0.all_mk KX G hmg ?aR ?xR ?a0 ?x0 ?a1 ?x1 ?a2 ?x2 ?a3 ?x3 ?a4 ?x4 ?a5 ?x5 ?a6 ?x6 ?a7 ?x7 ?a8 ?x8 ?a9 ?x9 ?a10 ?x10 ?a11 ?x11 ?a12 ?x12 ?a13 ?x13 ?a14 ?x14 ?a15 ?x15 ?a16 ?x16 ?a17 ?x17 ?a18 ?x18 ?aC ?mC ?kC ?n_one ?n_more ?n_marks ?n_way ?n_kept ?n_vals ?n_law ?n_isint ?n_isnum ?n_wrong ?n_chkL ?n_chkF ?n_init ?i_init ?n_clo ?i_clo ?l_one ?c_one ?k_one ?l_more ?c_more ?k_more ?l_marks ?c_marks ?k_marks ?l_way ?c_way ?k_way ?l_kept ?c_kept ?k_kept ?l_vals ?c_vals ?k_vals ?l_law ?c_law ?k_law ?l_isint ?c_isint ?k_isint ?l_isnum ?c_isnum ?k_isnum ?l_wrong ?c_wrong ?k_wrong ?l_chkL ?c_chkL ?k_chkL ?l_chkF ?c_chkF ?k_chkF ?l_init ?c_init ?k_init ?l_clo ?c_clo ?k_clo ?h1 ?h2 ?h3 ?h4
    (case aR => k_is)
    (case xR => (refine' K0.clsx_mk ?zxe ?zxr; (case zxe => k_is); (case zxr => decide +kernel)))
    (case a0 => k_is)
    (case x0 => (refine' K0.clsx_mk ?zxe ?zxr; (case zxe => k_is); (case zxr => decide +kernel)))
    (case a1 => k_is)
    (case x1 => (refine' K0.clsx_mk ?zxe ?zxr; (case zxe => k_is); (case zxr => decide +kernel)))
    (case a2 => k_is)
    (case x2 => (refine' K0.clsx_mk ?zxe ?zxr; (case zxe => k_is); (case zxr => decide +kernel)))
    (case a3 => k_is)
    (case x3 => (refine' K0.clsx_mk ?zxe ?zxr; (case zxe => k_is); (case zxr => decide +kernel)))
    (case a4 => k_is)
    (case x4 => (refine' K0.clsx_mk ?zxe ?zxr; (case zxe => k_is); (case zxr => decide +kernel)))
    (case a5 => k_is)
    (case x5 => (refine' K0.clsx_mk ?zxe ?zxr; (case zxe => k_is); (case zxr => decide +kernel)))
    (case a6 => k_is)
    (case x6 => (refine' K0.clsx_mk ?zxe ?zxr; (case zxe => k_is); (case zxr => decide +kernel)))
    (case a7 => k_is)
    (case x7 => (refine' K0.clsx_mk ?zxe ?zxr; (case zxe => k_is); (case zxr => decide +kernel)))
    (case a8 => k_is)
    (case x8 => (refine' K0.clsx_mk ?zxe ?zxr; (case zxe => k_is); (case zxr => decide +kernel)))
    (case a9 => k_is)
    (case x9 => (refine' K0.clsx_mk ?zxe ?zxr; (case zxe => k_is); (case zxr => decide +kernel)))
    (case a10 => k_is)
    (case x10 => (refine' K0.clsx_mk ?zxe ?zxr; (case zxe => k_is); (case zxr => decide +kernel)))
    (case a11 => k_is)
    (case x11 => (refine' K0.clsx_mk ?zxe ?zxr; (case zxe => k_is); (case zxr => decide +kernel)))
    (case a12 => k_is)
    (case x12 => (refine' K0.clsx_mk ?zxe ?zxr; (case zxe => k_is); (case zxr => decide +kernel)))
    (case a13 => k_is)
    (case x13 => (refine' K0.clsx_mk ?zxe ?zxr; (case zxe => k_is); (case zxr => decide +kernel)))
    (case a14 => k_is)
    (case x14 => (refine' K0.clsx_mk ?zxe ?zxr; (case zxe => k_is); (case zxr => decide +kernel)))
    (case a15 => k_is)
    (case x15 => (refine' K0.clsx_mk ?zxe ?zxr; (case zxe => k_is); (case zxr => decide +kernel)))
    (case a16 => k_is)
    (case x16 => (refine' K0.clsx_mk ?zxe ?zxr; (case zxe => k_is); (case zxr => decide +kernel)))
    (case a17 => k_is)
    (case x17 => (refine' K0.clsx_mk ?zxe ?zxr; (case zxe => k_is); (case zxr => decide +kernel)))
    (case a18 => k_is)
    (case x18 => (refine' K0.clsx_mk ?zxe ?zxr; (case zxe => k_is); (case zxr => decide +kernel)))
    (case aC => k_is)
    (case mC => k_is)
    (case kC => k_is)
    (case n_one => k_is)
    (case n_more => k_is)
    (case n_marks => k_is)
    (case n_way => k_is)
    (case n_kept => k_is)
    (case n_vals => k_is)
    (case n_law => k_is)
    (case n_isint => k_is)
    (case n_isnum => k_is)
    (case n_wrong => k_is)
    (case n_chkL => k_is)
    (case n_chkF => k_is)
    (case n_init => k_is)
    (case i_init => k_is)
    (case n_clo => k_is)
    (case i_clo => k_is)
    (case l_one => k_is)
    (case c_one => k_is)
    (case k_one => k_is)
    (case l_more => k_is)
    (case c_more => k_is)
    (case k_more => k_is)
    (case l_marks => k_is)
    (case c_marks => k_is)
    (case k_marks => k_is)
    (case l_way => k_is)
    (case c_way => k_is)
    (case k_way => k_is)
    (case l_kept => k_is)
    (case c_kept => k_is)
    (case k_kept => k_is)
    (case l_vals => k_is)
    (case c_vals => k_is)
    (case k_vals => k_is)
    (case l_law => k_is)
    (case c_law => k_is)
    (case k_law => k_is)
    (case l_isint => k_is)
    (case c_isint => k_is)
    (case k_isint => k_is)
    (case l_isnum => k_is)
    (case c_isnum => k_is)
    (case k_isnum => k_is)
    (case l_wrong => k_is)
    (case c_wrong => k_is)
    (case k_wrong => k_is)
    (case l_chkL => k_is)
    (case c_chkL => k_is)
    (case k_chkL => k_is)
    (case l_chkF => k_is)
    (case c_chkF => k_is)
    (case k_chkF => k_is)
    (case l_init => k_is)
    (case c_init => k_is)
    (case k_init => k_is)
    (case l_clo => k_is)
    (case c_clo => k_is)
    (case k_clo => k_is)
    (case h1 => kernel_rfl)
    (case h2 => kernel_rfl)
    (case h3 => kernel_rfl)
    (case h4 => kernel_rfl)
