import PyProof.Rows.All
import Wide.All
import OpenK.AllK
import Wide.FinOn
import HandS.ForExc
import HandS.HotCalls
import HandS.ExcInit
import HandS.ExcIs
import HandS.ExcField
import KE.KIsAll
import PyProof.Rows.CountFlat
import HandS.ForMost
import HandS.Wide
import HandS.Walk
import HandS.IsInst
import HandS.Comp
import HandS.Conv
import HandS.Zip
import HandS.Strs
import HandS.Style
import HandS.Base
import HandS.Call
import HandS.MakeKwOnly
import HandS.TupAny
import HandS.Iter
import HandS.Deep
import HandS.RevRange
import HandS.Sort
import HandS.ExcCtx
import OpenK.KOps
import HandS.Property
import HandS.TryOnly
import PyProof.LongRange
import HandS.OwnEq
import PySem.Challenge.RW_runsdown_k28_ends_further_below_and_turn
set_option Elab.async false
set_option linter.all false
set_option maxRecDepth 100000
set_option maxHeartbeats 4000000
/-! An own error class over ValueError, called with positional values and keywords: the model's own steps. -/
namespace MXa
open PySem PySem.W PySem.Calls PyProof.Rows PySem.HandSPX
open Builtin Builtin.ObjectAttr
section
variable {M : Model} {prog : Program} {w : World} {A : Around} {E : Value → Shared → Prop} {R : Result → Shared → Prop} {h : Heap} {g : Array GenState} {d : Drawn} {t : Nat} {os : OsState}
variable {nm q : Str} {C N : Addr} {bs bm bmB : List Value} {hdct : Bool} {sn : List Str} {sub : List Value} {ab : Bool} {col : Option Bool} {dd : Option Addr} {k0 k1 k2 k3 k5 : Option Value} {B newId initId : String}

theorem newCheck (F : ExcBaseFacts B newId initId bmB) (hT : ∀ X : String, bm.contains (.type X) = bmB.contains (.type X)) {ps : List Value} {kw : List (Str × Value)} {Q : Unit → Shared → Prop}
    (cl : h.get? C = some (excClassObj nm q C N bs bm hdct sn sub ab col dd k0 k1 k2 k3 k5 newId)) (go : Q () ⟨h, g, d, t, os⟩) : wpAny M A (checkBuiltinCall newId ⟨.ref C :: ps, kw⟩) Q E ⟨h, g, d, t, os⟩ := by
  have has : (Value.ref C :: bm).contains (.type B) = true := by
    rw [List.contains_cons, hT, F.hasB, Bool.or_true]
  have star := F.noStar
  simp only [checkBuiltinCall, F.newKind, F.newSplit, F.newRow]
  repeat (first
    | refine wpAny_loadPart_at cl ?_
    | (refine wpAny_isSubtype_exc cl ?_; rw [has])
    | refine wpAny_staticBase_exc cl ?_
    | refine wpAny_madeBy_exc cl ?_
    | simp only [bne_self_eq_false, Bool.false_eq_true, if_false]
    | wp_step)
  all_goals first | exact go | trace_state

theorem newBody (F : ExcBaseFacts B newId initId bmB) (hT : ∀ X : String, bm.contains (.type X) = bmB.contains (.type X)) {ps : List Value} {kw : List (Str × Value)}
    (cl : h.get? C = some (excClassObj nm q C N bs bm hdct sn sub ab col dd k0 k1 k2 k3 k5 newId)) (short : ps.length ≤ sizeLine)
    (go : R (.ok (.ret (.ref (h.objs.size + 1)))) ⟨(h.push (W.kdv_tup ps)).push (excO C h.objs.size), g, d, t, os⟩) :
    codeAny (model prog w) A (.builtin newId ⟨.ref C :: ps, kw⟩) R ⟨h, g, d, t, os⟩ := by
  have es := F.ends
  have yB : (Value.ref C :: bm).contains (.type B) = true := by
    rw [List.contains_cons, hT, F.hasB, Bool.or_true]
  have nA : (Value.ref C :: bm).contains (.type "AttributeError") = false := by
    rw [List.contains_cons, hT, F.noAttr]
    rfl
  have nN : (Value.ref C :: bm).contains (.type "NameError") = false := by
    rw [List.contains_cons, hT, F.noName]
    rfl
  refine codeAny_builtinAt F.entry ?_
  unfold Builtin.«BaseException.__new__»
  refine PySem.wpAt_bind ?_
  show PySem.wpAt _ _ _ (stack >>= _) _ _ _
  refine PySem.wpAt_bind (PySem.wpAt_stack fun z zs => PySem.wpAt_of_wpAny ?_)
  wp_walk
  refine PySem.wpAt_of_wpAny ?_
  rw [F.owner]
  repeat (first
    | with_reducible refine wpAny_madeHere_exc F.canon cl ?_
    | with_reducible refine wpAny_loadPart_at cl ?_
    | (with_reducible refine wpAny_isSubtype_exc cl ?_; first | rw [yB] | rw [nA] | rw [nN])
    | wp_step)
  show R _ _
  rw [Heap.size_push]
  exact go

theorem typeCall (F : ExcBaseFacts B newId initId bmB) (hT : ∀ X : String, bm.contains (.type X) = bmB.contains (.type X)) {ps : List Value} {kw : List (Str × Value)} {fI : Addr} {Q : Fin → Shared → Prop}
    (cl : h.get? C = some (excClassObj nm q C N bs bm hdct sn sub ab col dd k0 k1 k2 k3 k5 newId)) (short : ps.length ≤ sizeLine)
    (fi : W.Looks (model prog w) h (typeLookup (.ref C) "__init__") (some (.ref fI))) (bi : ∀ self, W.Looks (model prog w) h (bindSpecial (.ref fI) self) (.ref fI, [self]))
    (go : codeAny (model prog w) A (.call (.ref fI) ⟨.ref (h.objs.size + 1) :: ps, kw⟩)
      (fun r s' => match r with | .ok (.ret v) => v = .none ∧ Q (.done (.ret (.ref (h.objs.size + 1)))) s' | .ok _ => False | .error e => E e s')
      ⟨(h.push (W.kdv_tup ps)).push (excO C h.objs.size), g, d, t, os⟩) :
    wpAny (model prog w) A (Builtin.«type.__call__» ⟨.ref C :: ps, kw⟩) Q E ⟨h, g, d, t, os⟩ := by
  repeat (first
    | with_reducible refine wpAny_loadPart_at cl ?_
    | with_reducible refine wpAny_madeBy_exc cl ?_
    | wp_step)
  refine codeAny_call_builtin_code (Code.quiet_builtin _ F.quiet) (newCheck F hT cl ?_)
  refine newBody F hT cl short ?_
  show wpAny _ _ _ _ _ _
  have up : ∀ b o, h.get? b = some o → ((h.push (W.kdv_tup ps)).push (excO C h.objs.size)).get? b = some o := fun b o e =>
    Heap.get?_push_of_some _ (Heap.get?_push_of_some _ e)
  have cl1 := up _ _ cl
  have at1 : ((h.push (W.kdv_tup ps)).push (excO C h.objs.size)).get? (h.objs.size + 1) = some (excO C h.objs.size) := by
    heap_get
  have yC : (Value.ref C :: bm).contains (.ref C) = true := by simp
  have fi1 := fi.keeps up
  have bi1 := (bi (.ref (h.objs.size + 1))).keeps up
  unfold isInstance
  repeat (first
    | with_reducible refine wpAny_loadPart_at at1 ?_
    | (with_reducible refine wpAny_isSubtype_exc cl1 ?_; rw [yC])
    | wp_step)
  show wpAny _ _ (typeLookup (.ref C) _) _ _ _
  refine fi1.at (wpAny_holding (wpAny_bind (bi1.at (wpAny_bind (wpAny_call (codeAny_mono go fun r s' z => ?_))))))
  rcases r with e | (v | _ | _ | _) <;> first | exact z | exact z.elim | skip
  obtain ⟨rfl, z⟩ := z
  first
    | exact wpAny_pure (wpAny_pure z)
    | (wp_walk; exact z)

theorem typeCallCheck {ps : List Value} {kw : List (Str × Value)} {Q : Unit → Shared → Prop} (cl : h.get? C = some (excClassObj nm q C N bs bm hdct sn sub ab col dd k0 k1 k2 k3 k5 newId))
    (go : Q () ⟨h, g, d, t, os⟩) : wpAny M A (checkBuiltinCall "type.__call__" ⟨.ref C :: ps, kw⟩) Q E ⟨h, g, d, t, os⟩ := by
  have f3 := tc_sub
  have ty : (⟨h, g, d, t, os⟩ : Shared).TypeIs (.ref C) "type" := ⟨_, cl, rfl⟩
  simp only [checkBuiltinCall, tc_kind, tc_split]
  repeat (any_goals (first
    | assumption
    | with_reducible refine wpAny_loadPart_at cl ?_
    | with_reducible refine wpAny_onRaise ?_
    | with_reducible refine wpAny_map ?_
    | wp_step))
  all_goals trace_state

theorem callOwn (F : ExcBaseFacts B newId initId bmB) (hT : ∀ X : String, bm.contains (.type X) = bmB.contains (.type X)) {ps : List Value} {kw : List (Str × Value)} {fI : Addr}
    (cl : h.get? C = some (excClassObj nm q C N bs bm hdct sn sub ab col dd k0 k1 k2 k3 k5 newId)) (short : ps.length ≤ sizeLine)
    (fi : W.Looks (model prog w) h (typeLookup (.ref C) "__init__") (some (.ref fI))) (bi : ∀ self, W.Looks (model prog w) h (bindSpecial (.ref fI) self) (.ref fI, [self]))
    (go : codeAny (model prog w) (A.under (.builtin "type.__call__" ⟨.ref C :: ps, kw⟩)) (.call (.ref fI) ⟨.ref (h.objs.size + 1) :: ps, kw⟩) (W.InitBack (h.objs.size + 1) R)
      ⟨(h.push (W.kdv_tup ps)).push (excO C h.objs.size), g, d, t, os⟩) :
    codeAny (model prog w) A (.call (.ref C) ⟨ps, kw⟩) R ⟨h, g, d, t, os⟩ := by
  have f1 := tc_lookup
  have f2 := tc_bind (.ref C)
  have ty : (⟨h, g, d, t, os⟩ : Shared).TypeIs (.ref C) "type" := ⟨_, cl, rfl⟩
  refine codeAny_of_tree ?_
  show wpAny _ _ (callAny (.ref C) _) _ _ _
  repeat (any_goals (first
    | assumption
    | with_reducible refine wpAny_loadPart_at cl ?_
    | wp_step))
  refine ⟨rfl, ?_⟩
  refine codeAny_call_builtin_at (Code.quiet_builtin _ (by decide +kernel)) entry_typeCall (typeCallCheck cl (typeCall F hT cl short fi bi ?_))
  refine codeAny_mono go fun r s' z => ?_
  rcases r with e | (v | _ | _ | _) <;> exact z
end
end MXa
/-! Own error classes with one inherited __init__ that stores one field: made, raised, read, asked. -/
namespace MXb
open PySem PySem.Spec PyProof.Rows L2
abbrev St := L2.St
/-- what the written part says of an error class at C whose __init__ stands at fI and stores the field fl -/
structure XC (K : PySem.W.Frag) (mg : Str → Option Value) (fI C : Addr) (nm fl : Str) : Prop where
  gC : mg nm = some (.ref C)
  ox : OexC K C
  ini : PySem.W.findIn K (.ref C) "__init__" = some (some (.ref fI))
  tyI : PySem.W.typeIn K (.ref fI) = some (.type "function")
  noF : PySem.W.findIn K (.ref C) fl = some none
  xf : XfC K C
  ec : ExcC K C
/-- __init__(self, fl): self.fl = fl -/
def spInit (K : PySem.W.Frag) (fl : Str) : Sp := fun vs H Q _ => ∃ (e C : Addr) (y : V), vs = [.ref e, y] ∧ OexC K C ∧ PySem.W.findIn K (.ref C) fl = some none ∧ H e = some (exo e C none) ∧
  ∀ d, H d = none → d ≠ e → Q .non (upd (upd H d (exd d [(fl, y)])) e (exo e C (some d)))
/-- how the one value comes to __init__: positional (kw none), or by its name -/
structure Bind1 (K : PySem.W.Frag) (fd : FuncData) (fl : Str) : Prop where
  pos : ∀ (s : Shared) (a u : Value), K.In s.heap → BindsTo s fd ⟨[a, u], []⟩ ((["self", fl] : List Str).zip [a, u])
  kw : ∀ (s : Shared) (a u : Value), K.In s.heap → BindsTo s fd ⟨[a], [(fl, u)]⟩ ((["self", fl] : List Str).zip [a, u])
/-- the abstract heap behind C(y): the new error at a, its dict at d -/
def hMade (H : Hp) (a d C : Addr) (fl : Str) (y : V) : Hp := upd (upd (upd H a (exo a C none)) d (exd d [(fl, y)])) a (exo a C (some d))
section
variable {X : Cx} {fI C : Addr} {nm fl : Str} {k : Nat} {fd : FuncData}
theorem run_x {pins : List (Addr × Obj)} {σ : St} {H : Hp} {s : Shared} {y : V} {u : Value} {ps : List Value} {kw : List (Str × Value)} {R : Value → Shared → Prop} (T : XC X.K X.mg fI C nm fl)
    (F1 : FnOk X.prog X.w X.K X.mg X.base CX0 k fI fd ["self", fl] (spInit X.K fl)) (hr : Room (k + 1) X.A) (I : Inv X pins σ H s) (r : RelV y u) (short : ps.length ≤ sizeLine)
    (bi : ∀ (s : Shared) (a : Value), X.K.In s.heap → BindsTo s fd ⟨a :: ps, kw⟩ ((["self", fl] : List Str).zip [a, u]))
    (fin : ∀ (s2 : Shared) (d : Addr), H (s.heap.objs.size + 1) = none → H d = none → d ≠ s.heap.objs.size + 1 → s2.os = s.os → AllBare s2.gens →
      Inv X pins σ (hMade H (s.heap.objs.size + 1) d C fl y) s2 →
      Un (frs X.stack) [] (upd H (s.heap.objs.size + 1) (exo (s.heap.objs.size + 1) C none)) (hMade H (s.heap.objs.size + 1) d C fl y) ((s.heap.push (PySem.W.kdv_tup ps)).push (PySem.HandSPX.excO C s.heap.objs.size)) s2.heap →
      HOk X.prog X.w (hMade H (s.heap.objs.size + 1) d C fl y) s2.heap → R (.ref (s.heap.objs.size + 1)) s2) :
    wpAny (model X.prog X.w) X.A (call (.ref C) ps kw) R X.xe s := by
  obtain ⟨n0, q0, N0, bs0, bm, sn0, sub0, ab0, col0, dd0, k0, k1, k2, k3, k5, hC, hbm⟩ := T.ox.cls
  obtain ⟨hp, g, dr, tk, os⟩ := s
  have above : hp.objs.size ≤ hp.objs.size + 1 := Nat.le_succ _
  have free : H (hp.objs.size + 1) = none := I.hok.fresh above
  have up : ∀ b o, hp.get? b = some o → ((hp.push (PySem.W.kdv_tup ps)).push (PySem.HandSPX.excO C hp.objs.size)).get? b = some o := fun b o e =>
    Heap.get?_push_of_some _ (Heap.get?_push_of_some _ e)
  have at1 : ((hp.push (PySem.W.kdv_tup ps)).push (PySem.HandSPX.excO C hp.objs.size)).get? (hp.objs.size + 1) = some (PySem.HandSPX.excO C hp.objs.size) := by
    heap_get
  have J : Inv X pins σ (upd H (hp.objs.size + 1) (exo (hp.objs.size + 1) C none)) ⟨(hp.push (PySem.W.kdv_tup ps)).push (PySem.HandSPX.excO C hp.objs.size), g, dr, tk, os⟩ :=
    Inv.laid (I := I) (t' := tk) (a := hp.objs.size + 1) (o := exo (hp.objs.size + 1) C none) (h' := (hp.push (PySem.W.kdv_tup ps)).push (PySem.HandSPX.excO C hp.objs.size)) up above (exo_ok at1)
  have rr : Vals [V.ref (hp.objs.size + 1), y] [Value.ref (hp.objs.size + 1), u] := .cons rfl (.cons r .nil)
  refine wpAny_call (MXa.callOwn F.excBase_ValueError (fun Y => PySem.HandSPX.refsVE_contains Y bm hbm) (I.kIn _ _ hC) short (PySem.W.looks_findIn I.kIn T.ini) (fun self => PySem.W.bind_fn I.kIn self T.tyI)
    (codeAny_mono (F1.run _ X.stack _ _ ⟨Value.ref (hp.objs.size + 1) :: ps, kw⟩ [Value.ref (hp.objs.size + 1), u] [V.ref (hp.objs.size + 1), y]
      (fun v H2 => v = .non ∧ ∃ d, H d = none ∧ d ≠ hp.objs.size + 1 ∧ H2 = hMade H (hp.objs.size + 1) d C fl y) E0 (hr.make C ps kw) (J.env0.make C ps kw) (bi _ _ J.kIn) rr
      ⟨hp.objs.size + 1, C, y, rfl, T.ox, T.noF, upd_same, fun d nd ne => ⟨rfl, d, by rw [upd_ne ne] at nd; exact nd, ne, rfl⟩⟩) fun r2 s2 z => ?_))
  cases r2 with
  | error er => exact z.elim
  | ok fl2 =>
    cases fl2 with
    | ret v2 =>
      obtain ⟨v, H', I3, rv, ev, d, nd, ne, rfl⟩ := J.after z
      obtain ⟨v', H2', os2, bare2, un2, hok2, rv', ev', d', nd', ne', eH⟩ := z
      subst ev
      refine ⟨rv, ?_⟩
      subst eH
      have J2 := J.after (Q := fun v H2 => v = v' ∧ H2 = hMade H (hp.objs.size + 1) d' C fl y) ⟨v', _, os2, bare2, un2, hok2, rv', rfl, rfl⟩
      obtain ⟨_, _, I4, _, rfl, rfl⟩ := J2
      exact fin s2 d' free nd' ne' os2 bare2 I4 un2 hok2
    | next => exact False.elim z
    | brk => exact False.elim z
    | cont => exact False.elim z
end
end MXb
/-! The class of an error that has a dict of its own; isinstance of it. -/
namespace MXc
open PySem PySem.W PySem.Spec PySem.Calls PyProof.Rows
section
variable {prog : Program} {w : World} {A : Around} {E : Value → Shared → Prop} {s : Shared} {K : Frag} {x D : Addr} {ox : Obj} {od : Option Obj}
theorem found {C : Addr} {name : Str} {a g : Value} (c1 : (clsIn K C).isSome = true) (c2 : findIn K (.ref C) name = some (some a)) (c3 : specialIn K a "__get__" = some (some g)) (c4 : takesIn K a = some true) : findObj K C od name = some (.bind g a) := by
  obtain ⟨cd, e⟩ := Option.isSome_iff_exists.mp c1
  unfold findObj
  rw [e, Option.bind_some, c2, Option.bind_some]
  simp [c3, c4]
theorem askClass {Q : Option Value → Shared → Prop} (T : L2.ExcC K D) (X : K.In s.heap) (I : InstAt s.heap x ox D od) (go : Q (some (.ref D)) { s with toks := s.toks + 1 }) :
    wpAny (model prog w) A (getAttr? (.ref x) "__class__") Q E s := by
  have fo : findObj K D od "__class__" = some (.bind (.builtin "getset_descriptor.__get__") (.builtin "object.__class__")) :=
    found (by obtain ⟨cd, e, _⟩ := any_some T.hd; rw [e]; rfl) T.ha T.hn T.ht
  obtain ⟨hp, g, d, t, os⟩ := s
  have a0 := I.type (M := model prog w)
  have a1 := looks_findIn (M := model prog w) X T.hg
  have a2 := looks_findIn (M := model prog w) X T.hk
  have a3 := looks_find (M := model prog w) X I fo
  have below : Looks (model prog w) hp (isInstance (.ref x) (.type "BaseException")) true :=
    a0.andThen (looks_subIn X T.hs)
  have z2 : (Value.builtin "BaseException.__getattribute__" == Value.builtin "object.__getattribute__") = false := by
    decide +kernel
  have z1 : (onTheHeap (Value.ref D) && Value.builtin "BaseException.__getattribute__" == Value.builtin "object.__getattribute__") = false := by
    rw [z2]
    rfl
  have z0 : (false && onTheHeap (Value.builtin "BaseException.__getattribute__")) = false := rfl
  unfold getAttr? getAttrBy? getAttrBy
  refine wpAny_bind (wpAny_mkText (wpAny_bind (wpAny_attempt (wpAny_holding (wpAny_bind (a0.at (wpAny_bind (a1.at ?_))))))))
  show wpAny _ _ (if (onTheHeap (Value.ref D) && Value.builtin "BaseException.__getattribute__" == Value.builtin "object.__getattribute__") = true then _ else _) _ _ _
  rw [z1]
  rw [if_neg Bool.false_ne_true]
  unfold getAttrByItsOwn hookBefore
  refine wpAny_bind ?_
  rw [if_pos (show onTheHeap (Value.ref D) = true from rfl)]
  refine a2.at (wpAny_bind (wpAny_attempt (wpAny_holding ?_)))
  unfold callGetattribute
  rw [z0]
  rw [if_neg Bool.false_ne_true]
  unfold boundAndCalled
  rw [PySem.F.excAttr_ValueError.ga.bind (.ref x)]
  refine wpAny_bind (wpAny_pure ?_)
  show wpAny _ _ (call (.builtin "BaseException.__getattribute__") [.ref x, .str "__class__" t]) _ _ _
  refine wpAny_call (codeAny_call_builtin PySem.F.excAttr_ValueError.ga.plain PySem.F.entry_bexc_ga ?_)
  refine @check_slot (model prog w) _ _ ⟨hp, g, d, t + 1, os⟩ "BaseException.__getattribute__" "BaseException" "__getattribute__" (.ref x)
    [.str "__class__" t] [] _ (by decide +kernel) (by decide +kernel) below (PySem.F.args_bexc_ga (.ref x) (.str "__class__" t)) ?_
  unfold Builtin.«object.__getattribute__»
  refine wpAny_bind (wpAny_of_eq (a := ((Value.ref x : Value), [Value.str "__class__" t])) (by first | rfl | (simp only [slotArgs]; rfl)) ?_)
  refine wpAny_bind (wpAny_pure (wpAny_bind (a0.at (wpAny_bind (a3.at ?_)))))
  show wpAny _ _ (holding [Value.builtin "object.__class__"] (call (.builtin "getset_descriptor.__get__") [.builtin "object.__class__", .ref x, .ref D]) >>= ret) _ _ _
  refine wpAny_bind (wpAny_holding (wpAny_call (class_get (s := ⟨hp, g, d, t + 1, os⟩) (ox := ox) (od := od) X I T.hm (wpAny_pure ?_))))
  show wpAny _ _ (handedOut (.ref D)) _ _ _
  rw [handedOut_of (v := .ref D) rfl]
  first
    | exact wpAny_pure (wpAny_pure go)
    | exact wpAny_pure go
    | exact wpAny_pure (wpAny_bind (wpAny_pure (wpAny_pure go)))
theorem kit_err (T : L2.ExcC K D) : KitX K (.ref x) (.ref D) (fun h => InstAt h x ox D od) := by
  obtain ⟨cdD, hcD, _⟩ := any_some T.hd
  have at0 : ∃ c' d' cd' sl', K.lookup D = some ⟨c', d', .cls cd', sl'⟩ := by
    unfold clsIn at hcD
    split at hcD
    · rename_i c' d' cd' sl' ho
      exact ⟨_, _, _, _, ho⟩
    · cases hcD
  obtain ⟨c', d', cd', sl', ho⟩ := at0
  refine ⟨fun _ _ _ I => I.type, fun _ _ X _ => ?_, fun h tp dd its n sl X htp => ?_, fun X I k => askClass T X I k⟩
  · intro A' Q' E' s' k q
    unfold isType loadHead
    exact wpAny_bind (wpAny_loadPart (k _ _ (X _ _ ho)) (wpAny_pure q))
  · refine Bool.eq_false_iff.mpr fun q => ?_
    obtain rfl : D = tp := Value.ref.inj (beq_iff_eq.mp q)
    have z := (X _ _ ho).symm.trans htp
    cases z
end
end MXc
/-! Readings and rules: C(e) raised, C(e) and C(fl = e) as values, their field, a def that is handed the error of an except suite, isinstance there. -/
namespace MXd
open PySem PySem.Spec PyProof.Rows L2 MXb
abbrev St := L2.St
/-- raise C(e): the way out -/
def tMk1 (C : Addr) (fl : Str) (te : TE) : St → Hp → XK → Prop := fun σ H Q => te σ H fun v H1 => ∀ d, H1 d = none → Q (.ref C) (some d) (upd H1 d (.xd [(fl, v)]))
/-- C(e) as a value: the new error at a, its dict at d -/
def tMkV (C : Addr) (fl : Str) (te : TE) : TE := fun σ H Q => te σ H fun v H1 => ∀ a d, H1 a = none → H1 d = none → d ≠ a → Q (.ref a) (hMade H1 a d C fl v)
def tMkK (C : Addr) (fl : Str) (tk : TA) : TE := fun σ H Q => tk σ H fun vs H1 => ∃ v, vs = [v] ∧ ∀ a d, H1 a = none → H1 d = none → d ≠ a → Q (.ref a) (hMade H1 a d C fl v)
/-- e.fl, e an error that was just made -/
def tFx (K : PySem.W.Frag) (fl : Str) (te : TE) : TE := fun σ H Q => te σ H fun x H1 => ∃ (a C d : Addr) (fs : List (Str × V)) (v : V), x = .ref a ∧ XfC K C ∧ PySem.W.findIn K (.ref C) fl = some none ∧
  H1 a = some (exo a C (some d)) ∧ H1 d = some (exd d fs) ∧ fs.lookup fl = some v ∧ Q v H1
theorem made_end {H : Hp} {a d C : Addr} {fl : Str} {y : V} {o : HO} (na : H a = none) (ne : d ≠ a) : upd (del (hMade H a d C fl y) a) d o = upd H d o := by
  funext b
  by_cases hd : b = d
  · rw [hd, upd_same, upd_same]
  · rw [upd_ne hd, upd_ne hd]
    by_cases ha : b = a
    · rw [ha, del_same, na]
    · unfold hMade
      rw [del_ne ha, upd_ne ha, upd_ne hd, upd_ne ha]
theorem made_a {H : Hp} {a d C : Addr} {fl : Str} {y : V} : hMade H a d C fl y a = some (exo a C (some d)) := upd_same
theorem made_d {H : Hp} {a d C : Addr} {fl : Str} {y : V} (ne : d ≠ a) : hMade H a d C fl y d = some (exd d [(fl, y)]) := by
  unfold hMade
  rw [upd_ne ne, upd_same]
theorem made_o {H : Hp} {a d C : Addr} {fl : Str} {y : V} {b : Addr} {o : HO} (na : H a = none) (nd : H d = none) (e : H b = some o) : hMade H a d C fl y b = some o := by
  unfold hMade
  rw [upd_ne (ne_of_none e na), upd_ne (ne_of_none e nd), upd_ne (ne_of_none e na)]
  exact e
section
variable {X : Cx} {fI C : Addr} {nm fl : Str} {k : Nat} {fd : FuncData} {e : Expr} {te : TE} {tk : TA} {p pos kpos : Pos}
theorem pmk1 (T : XC X.K X.mg fI C nm fl) (F1 : FnOk X.prog X.w X.K X.mg X.base CX0 k fI fd ["self", fl] (spInit X.K fl)) (bd : Bind1 X.K fd fl) (hr : Room (k + 1) X.A) (hg : Gl X nm) (he : PE X e te)
    (hdb : (nm == ("__debug__" : Str)) = false := by decide) (hst : starEach [e] X.env = (false, eval e X.env) :: starEach [] X.env := by rfl) (hpl : (backTo pos (starEach [] X.env)).any (·.1) = false := by rfl) :
    L2N.PMk X (.Call (.Name nm p) [e] [] pos) (tMk1 C fl te) := by
  intro pins s σ H Q I h
  refine wpAny_Call_Name_kw (ld_glob I hg T.gC ?_ hdb)
  have ha : PA X [e] (tCons te tNil) := pa_cons he pa_nil hst
  refine PySem.W.callWith_K (h₀ := X.base) I.ok.mod.kin T.ox.kC (thn (ha.run pos pins s σ H (fun vs H1 => ∃ v, vs = [v] ∧ ∀ d, H1 d = none → Q (.ref C) (some d) (upd H1 d (.xd [(fl, v)])))
    I (show te σ H _ from ?_)) fun us s1 ⟨vs, H1, I1, r1, v, ev, q1⟩ => ⟨I1.kIn, ?_⟩) hst hpl
  · have imp : ∀ {Q1 Q2 : VK}, Q1 = Q2 → te σ H Q1 → te σ H Q2 := fun e z => e ▸ z
    refine imp ?_ h
    funext v H1
    exact propext ⟨fun z => ⟨v, rfl, z⟩, fun ⟨v', e', z⟩ => by cases e'; exact z⟩
  · subst ev
    obtain ⟨u, rfl, ru⟩ := r1.one
    refine run_x T F1 hr I1 ru (show 1 ≤ sizeLine by rw [sizeLine_eq]; decide) (fun s a X => bd.pos s a u X) fun s2 d na nd ne os2 bare2 I4 un2 hok2 => ?_
    obtain ⟨hp, g, dr, t, os⟩ := s1
    obtain ⟨h2, g2, d2, t2, os'⟩ := s2
    have up : ∀ b o, hp.get? b = some o → ((hp.push (PySem.W.kdv_tup [u])).push (PySem.HandSPX.excO C hp.objs.size)).get? b = some o := fun b o e =>
      Heap.get?_push_of_some _ (Heap.get?_push_of_some _ e)
    obtain ⟨t0, G, J, kG, ge, hoe, na2⟩ := mk_end0 (d2 := d2) (t2 := t2) I1 (Nat.le_succ _) up un2 hok2 os2 bare2 made_a (made_d ne) nd
    have q2 := q1 d nd
    rw [← made_end (C := C) (fl := fl) (y := v) na ne] at q2
    exact ⟨hp.objs.size + 1, _, _, ⟨G, g2, d2, t2, os'⟩, _, .ref C, some d, rfl, J, kG, ge, hoe, ⟨rfl, rfl, fun vs e => by cases e; rfl⟩, rfl, rfl, na2, rfl, bare2, raises_own T.ox.exC T.ox.tyC, q2⟩
theorem pe_mkv (T : XC X.K X.mg fI C nm fl) (F1 : FnOk X.prog X.w X.K X.mg X.base CX0 k fI fd ["self", fl] (spInit X.K fl)) (bd : Bind1 X.K fd fl) (hr : Room (k + 1) X.A) (hg : Gl X nm) (he : PE X e te)
    (hdb : (nm == ("__debug__" : Str)) = false := by decide) (hst : starEach [e] X.env = (false, eval e X.env) :: starEach [] X.env := by rfl) (hpl : (backTo pos (starEach [] X.env)).any (·.1) = false := by rfl) :
    PE X (.Call (.Name nm p) [e] [] pos) (tMkV C fl te) := by
  refine ⟨fun pins s σ H Q I h => ?_⟩
  refine wpAny_Call_Name_kw (ld_glob I hg T.gC ?_ hdb)
  have ha : PA X [e] (tCons te tNil) := pa_cons he pa_nil hst
  refine PySem.W.callWith_K (h₀ := X.base) I.ok.mod.kin T.ox.kC (thn (ha.run pos pins s σ H (fun vs H1 => ∃ v, vs = [v] ∧ ∀ a d, H1 a = none → H1 d = none → d ≠ a → Q (.ref a) (hMade H1 a d C fl v))
    I (show te σ H _ from ?_)) fun us s1 ⟨vs, H1, I1, r1, v, ev, q1⟩ => ⟨I1.kIn, ?_⟩) hst hpl
  · have imp : ∀ {Q1 Q2 : VK}, Q1 = Q2 → te σ H Q1 → te σ H Q2 := fun e z => e ▸ z
    refine imp ?_ h
    funext v H1
    exact propext ⟨fun z => ⟨v, rfl, z⟩, fun ⟨v', e', z⟩ => by cases e'; exact z⟩
  · subst ev
    obtain ⟨u, rfl, ru⟩ := r1.one
    exact run_x T F1 hr I1 ru (show 1 ≤ sizeLine by rw [sizeLine_eq]; decide) (fun s a X => bd.pos s a u X) fun s2 d na nd ne os2 bare2 I4 un2 hok2 => ⟨V.ref (s1.heap.objs.size + 1), _, I4, rfl, q1 _ d na nd ne⟩
theorem pe_mkK (T : XC X.K X.mg fI C nm fl) (F1 : FnOk X.prog X.w X.K X.mg X.base CX0 k fI fd ["self", fl] (spInit X.K fl)) (bd : Bind1 X.K fd fl) (hr : Room (k + 1) X.A) (hg : Gl X nm) {kws : List Keyword} (hk : PK X kws tk)
    (hall : (backToKw pos (keywordEach kws X.env)).all (·.1.isSome) = true := by rfl) (hks : (backToKw pos (keywordEach kws X.env)).filterMap (·.1) = [fl] := by rfl)
    (hdb : (nm == ("__debug__" : Str)) = false := by decide)
    (hpl : ((backTo pos (starEach [] X.env)).any (·.1) || (backToKw pos (keywordEach kws X.env)).any (·.1.isNone)) = false := by rfl) :
    PE X (.Call (.Name nm p) [] kws pos) (tMkK C fl tk) := by
  refine ⟨fun pins s σ H Q I h => ?_⟩
  refine wpAny_Call_Name_kw (ld_glob I hg T.gC ?_ hdb)
  refine PySem.W.callWith_KW0 (h₀ := X.base) I.ok.mod.kin T.ox.kC hall ?_ hpl
  refine thn (hk.run pos pins s σ H _ I h) fun ws s2 ⟨zs, H2, I2, rz, v, ev, q2⟩ => ⟨I2.kIn, ?_⟩
  subst ev
  obtain ⟨u, rfl, ru⟩ := rz.one
  rw [hks]
  exact run_x (ps := []) (kw := [(fl, u)]) T F1 hr I2 ru (by rw [sizeLine_eq]; decide) (fun s a X => bd.kw s a u X) fun s3 d na nd ne os2 bare2 I4 un2 hok2 => ⟨V.ref (s2.heap.objs.size + 1), _, I4, rfl, q2 _ d na nd ne⟩
theorem pe_fx (he : PE X e te) (hb : attributeBase e fl X.env (eval e X.env) = eval e X.env := by rfl) : PE X (.Attribute e fl pos) (tFx X.K fl te) := by
  refine ⟨fun pins s σ H Q I h => ?_⟩
  refine attr_of hb (thn (he.run pins s σ H _ I h) fun u s1 hh => ?_)
  obtain ⟨x, H1, I1, rx, a, C, d, fs, v, rfl, T, no, ea, ed, l, q⟩ := hh
  obtain rfl : u = Value.ref a := rx
  obtain ⟨t1, ho⟩ := exo_at I1.hok ea
  obtain ⟨mA, ns, rel⟩ := exd_at I1.hok ed
  obtain ⟨od, hod, lk⟩ := lookIn_ns ns
  obtain ⟨u, hu, ru⟩ := RelO.some_of (v := v) (o := mA fl) (by rw [← l]; exact rel fl)
  have J : PySem.W.InstAt s1.heap a { cls := .ref C, dict := some d, data := .fields #[.ref t1, .none, .none, .none, .bool false, .none] } C (some od) := ⟨ho, rfl, rfl, hod⟩
  exact HandSPX.exc_get I1.kIn J T.ga T.gg T.exC (PySem.W.findObj_own T.hdC no rfl (by rw [lk, hu])) (handed_of ru) ⟨v, H1, I1.tok _, ru, q⟩
end
end MXd
/-! A def that an except suite hands its error to. -/
namespace MXe
open PySem PySem.Spec PyProof.Rows L2 L2H
abbrev St := L2.St
/-- a pinned error of the class at C, its dict at d -/
structure ErrP (C d : Addr) (p : Addr × Obj) : Prop where
  z : Zc (.ref C) (some d) p.2
  fs : ∃ vs, p.2.data = .fields vs
/-- a def's promise where p is such an error: sp is told its place, its class, its dict -/
structure FnE (P : Program) (w : World) (K : PySem.W.Frag) (mg : Str → Option Value) (base : Heap) (k : Nat) (f : Addr) (fd : FuncData) (ps : List Str) (sp : Addr → Addr → Addr → Sp) : Prop where
  len : ∀ a C d vs H Q E, sp a C d vs H Q E → vs.length = ps.length
  run : ∀ (A : Around) (outer : List Env) (s : Shared) (H : Hp) (args : Args) (us : List Value) (vs : List V) (Q : VK) (E : XK) (p : Addr × Obj) (C d : Addr), RoomH k A → ErrP C d p → PinOk outer H s p →
    Env0 P w K mg base A outer s H → BindsTo s fd args (ps.zip us) → Vals vs us → sp p.1 C d vs H Q E → codeAny (model P w) A (.call (.ref f) args) (CR CX0 outer P w H s Q E) s
section
variable {P : Program} {w : World} {K : PySem.W.Frag} {mg : Str → Option Value} {base : Heap} {k : Nat} {f : Addr} {fd : FuncData} {N ps : List Str} {sp : Addr → Addr → Addr → Sp} {x qual : Str} {st : Stmt}
theorem _root_.L2.Fun.okE (F : Fun K x qual st f fd) (S : FnScope N ps (defScope st)) (len : ∀ a C d vs H Q E, sp a C d vs H Q E → vs.length = ps.length)
    (body : ∀ (cdv : Value) (A : Around) (outer : List Env) (s : Shared) (H : Hp) (vs : List V) (Q : VK) (E : XK) (p : Addr × Obj) (C d : Addr), ErrP C d p → RoomH k (A.deeper (envOfC qual (defScope st) s.heap.objs.size f cdv)) → sp p.1 C d vs H Q E →
      ∃ t, PSs (cxH CX0 P w K mg base N qual (defScope st) f cdv A outer s H E p) (defBody st) t ∧ t { nx := fun _ H' => Q .non H', rt := Q } (L2.start N vs) H) : FnE P w K mg base (k + 1) f fd ps sp := by
  obtain ⟨oc, od, kV, doc, pm, an, cdv, ct, osl, rfl, lk, hcd⟩ := F.ex
  constructor
  · exact len
  · intro A outer s H args us vs Q E p C d room ep pin e0 bi rel hsp
    have nl := len _ _ _ _ _ _ _ hsp
    have up : ∀ b o, base.get? b = some o → s.heap.get? b = some o := fun b o e => (e0.bs b o e).1
    have kin : K.In s.heap := e0.mod.kin.keeps up
    have kinds : ∀ y ∈ ps.zip us, (defScope st).names.lookup y.1 = some .local ∨ ((defScope st).names.lookup y.1 = some .cell ∧ ((cellsFrom (s.heap.objs.size + 1) (defScope st).names []).lookup y.1).isSome = true) := by
      rintro ⟨n, v⟩ hy
      rcases S.par n (List.of_mem_zip hy).1 with q | q
      · exact Or.inl q
      · exact Or.inr ⟨q, PySem.W.cellsFrom_some _ _ _ (Or.inl q)⟩
    refine codeAny_call_function room.depth (kin _ _ lk) rfl S.co S.gen rfl (PySem.W.codeRec_of kin hcd) (bi _ _ _ _ (wpAny_newFunctionEnv_cells S.kind kinds fun env eqv s1 ic => ?_))
    subst eqv
    obtain ⟨t, ht, hq⟩ := body cdv A outer s H vs Q E p C d ep (room.deeper _) hsp
    have J : Inv (cxH CX0 P w K mg base N qual (defScope st) f cdv A outer s H E p) [] (L2.start N vs) H s1 := inv_startH S pin e0 nl rel ic
    refine ⟨(e0.mod.nolimit.keeps up).keeps ic.toInCall.keep, codeAny_func (wpAny_mono (ht.run [] s1 (L2.start N vs) H _ J hq) (fun fl s' z => ?_) fun e s' z => z)⟩
    have done : ∀ {σ' : St} {H' : Hp} {v : V} {u : Value}, Inv (cxH CX0 P w K mg base N qual (defScope st) f cdv A outer s H E p) [] σ' H' s' → RelV v u → Q v H' → CE outer P w H s Q u s' := by
      intro σ' H' v u I r q
      exact ⟨v, H', I.os, I.bare, I.base, I.hok, r, q⟩
    match fl, z with
    | .ret u, ⟨v, σ', H', I, r, q⟩ => exact done I r q
    | .next, ⟨σ', H', I, q⟩ => exact done (v := V.non) (u := Value.none) I rfl q
    | .brk, ⟨_, _, _, q⟩ => exact False.elim q
    | .cont, ⟨_, _, _, q⟩ => exact False.elim q
end
/-- f(..) where p is at hand -/
def tCallE (sp : Addr → Addr → Addr → Sp) (a C d : Addr) (t : TA) : TE := fun σ H Q => t σ H fun vs H1 => sp a C d vs H1 Q E0
/-- isinstance(e, c), e the error at a -/
def rIsP (K : PySem.W.Frag) (a C d : Addr) : List V → Hp → VK → Prop := fun xs H Q => ExcC K C ∧ ∃ (c : V) (cv : Value) (b : Bool) (fs : List (Str × V)), xs = [.ref a, c] ∧ (∀ u, RelV c u → u = cv) ∧ PySem.W.kitOne K (.ref C) cv = some b ∧ H d = some (.xd fs) ∧ Q (.bl b) H
section
variable {X : Cx} {k : Nat} {f C d : Addr} {fd : FuncData} {ps : List Str} {sp : Addr → Addr → Addr → Sp} {x : Str} {q pos : Pos} {e : Expr} {es : List Expr} {t : TA} {p : Addr × Obj}
theorem pe_callE (F : FnE X.prog X.w X.K X.mg X.base k f fd ps sp) (hr : RoomH k X.A) (hp : p ∈ X.pn) (ep : ErrP C d p) (hg : Gl X x) (hm : X.mg x = some (.ref f)) (hk : PySem.W.keepIn X.K (.ref f) = true) (hb : Binds X.K fd ps []) (ha : PA X (e :: es) t)
    (hdb : (x == ("__debug__" : Str)) = false := by decide) (he : starEach (e :: es) X.env = (false, eval e X.env) :: starEach es X.env := by rfl) (hpl : (backTo pos (starEach es X.env)).any (·.1) = false := by rfl) :
    PE X (.Call (.Name x q) (e :: es) [] pos) (tCallE sp p.1 C d t) := by
  refine ⟨fun pins s σ H Q I h => wpAny_Call_Name_kw (ld_glob I hg hm ?_ hdb)⟩
  refine PySem.W.callWith_K (h₀ := X.base) I.ok.mod.kin hk (thn (ha.run pos pins s σ H _ I h) fun us s1 ⟨vs, H1, I1, r, z⟩ => ⟨I1.kIn, ?_⟩) he hpl
  have nl : us.length = ps.length := by
    rw [← r.length]
    exact F.len _ _ _ _ _ _ _ z
  have bb := hb s1 us I1.kIn (by rw [List.append_nil]; exact nl)
  rw [List.append_nil] at bb
  obtain ⟨p1, p2, p3, p4, p5⟩ := I1.pin p (List.mem_append_left _ hp)
  have pin : PinOk X.stack H1 s1 p := ⟨p1, p2, fun hm => (List.mem_cons.mp (I1.stkSub p.1 hm)).elim p3 p4, p5⟩
  refine wpAny_call (codeAny_mono (F.run X.A X.stack s1 H1 ⟨us, []⟩ us vs Q E0 p C d hr ep pin I1.env0 bb r z) fun r2 s2 y => ?_)
  match r2, y with
  | .ok (.ret u), y => exact I1.after y
  | .ok .next, y => exact False.elim y
  | .ok .brk, y => exact False.elim y
  | .ok .cont, y => exact False.elim y
  | .error er, y => exact False.elim y
theorem call_isP (hp : p ∈ X.pn) (ep : ErrP C d p) : CallR X (.builtin "isinstance") (rIsP X.K p.1 C d) := by
  intro pins s σ H xs us Q I r h
  obtain ⟨ec, c, cv, b, fs, rfl, hcv, e, hd, q⟩ := h
  match us, r with
  | [u0, u1], .cons r0 (.cons r1 .nil) =>
    obtain rfl : u0 = Value.ref p.1 := r0
    obtain rfl := hcv _ r1
    obtain ⟨hget, _⟩ := I.pin p (List.mem_append_left _ hp)
    obtain ⟨vs, hv⟩ := ep.fs
    have hx : ObjOk X.prog X.w H s.heap d (.xd fs) := I.hok d _ hd
    obtain ⟨mA, ns, _⟩ := hx
    obtain ⟨od, hod, _⟩ := lookIn_ns ns
    have J : PySem.W.InstAt s.heap p.1 p.2 C (some od) := by
      obtain ⟨z1, z2⟩ := ep.z
      exact ⟨hget, z1, by unfold PySem.W.notCls; rw [hv] <;> rfl, by rw [z2]; exact hod⟩
    exact PySem.W.kia_one (MXc.kit_err ec) I.kIn J e (fun z => nomatch z) fun tk => ⟨.bl b, H, I.kept (t' := tk) fun _ _ z => z, rfl, q⟩
end
end MXe
/-! xs.count(True), xs a list of bools. -/
namespace MXf
open PySem PySem.Spec PyProof.Rows L2
theorem bools_is : ∀ {bs : List Bool} {us : List Value}, Vals (bs.map V.bl) us → us = bs.map Value.bool
  | [], _, .nil => rfl
  | b :: r, _, .cons h t => by
    have e := bools_is t
    rw [e, show _ = Value.bool b from h]
    rfl
theorem count_is (k : Bool) : ∀ bs : List Bool, (bs.map Value.bool).countP (isBoolOf k) = bs.count k
  | [] => rfl
  | b :: r => by
    rw [List.map_cons, List.countP_cons, List.count_cons, count_is k r]
    rfl
/-- xs.count(k) -/
def rCntB (K : PySem.W.Frag) : V → List V → Hp → VK → Prop := fun x xs H Q => ∃ (p : Addr) (bs : List Bool) (k : Bool), x = .ref p ∧ xs = [.bl k] ∧ SqL K H p (bs.map V.bl) ∧ Q (.int (bs.count k : Nat)) H
theorem mt_countB {X : Cx} : MtR X "list.count" (rCntB X.K) := by
  intro pins s σ H x xs v us Q I rx rxs h
  obtain ⟨p, bs, k, rfl, rfl, hs, q⟩ := h
  obtain rfl : v = Value.ref p := rx
  obtain ⟨u, rfl, ru⟩ := rxs.one
  obtain rfl : u = Value.bool k := ru
  obtain ⟨its, rv, ⟨⟨cls, dd, data, sl⟩, n, ho, hc, hdn, hd⟩, hlen⟩ := I.list hs
  simp only at hc hd
  subst hc hd
  have e := bools_is rv
  subst e
  refine call_meets PySem.F.slot_list_count ⟨_, ho, rfl⟩ PySem.F.entry_list_count (PySem.F.args_list_count_2 _ _)
    (SeqAt.list_countAt p (bs.map Value.bool).toArray n dd sl (.bool k) (isBoolOf k)) ⟨ho, fun y hy => ?_, ?_⟩
  · have hy' : y ∈ bs.map Value.bool := by simpa using hy
    obtain ⟨b, _, rfl⟩ := List.mem_map.mp hy'
    exact SeqAt.EqAt.bool_bool b k
  · refine ⟨.int (bs.count k : Nat), H, I.tok _, ⟨s.toks, ?_⟩, q⟩
    show Value.int (((bs.map Value.bool).toArray.toList.countP (isBoolOf k) : Nat) : Int) s.toks = Value.int ((bs.count k : Nat) : Int) s.toks
    rw [← count_is k bs]
end MXf
/-! C(e, ..) of an own class whose __init__ may raise: the wish may speak of the caller's slots. What is never reached. -/
namespace MXg
open PySem PySem.Spec PyProof.Rows L2
abbrev St := L2.St
def tMakeS (C : Addr) (sp : Sp) (E : St → XK) (t : TA) : TE := fun σ H Q => t σ H fun vs H1 => ∀ x dx, H1 x = none → H1 dx = none → dx ≠ x →
  sp (.ref x :: vs) (upd (upd H1 dx (.own x)) x (.ins C dx [])) (fun v H2 => v = .non ∧ Q (.ref x) H2) (E σ)
section
variable {X : Cx} {CX : CXT} {k : Nat} {f C : Addr} {fd : FuncData} {ps : List Str} {sp : Sp} {E : St → XK} {x : Str} {p pos : Pos} {e : Expr} {es : List Expr} {t : TA}
theorem pe_makeS (M : Mk X.K C f) (F : FnOk X.prog X.w X.K X.mg X.base CX k f fd ps sp) (hr : Room (k + 1) X.A) (hg : Gl X x) (hm : X.mg x = some (.ref C)) (hb : Binds X.K fd ps []) (hx : ∀ σ, PassesAt CX X σ (E σ)) (ha : PA X (e :: es) t)
    (hdb : (x == ("__debug__" : Str)) = false := by decide) (he : starEach (e :: es) X.env = (false, eval e X.env) :: starEach es X.env := by rfl) (hpl : (backTo pos (starEach es X.env)).any (·.1) = false := by rfl) :
    PE X (.Call (.Name x p) (e :: es) [] pos) (tMakeS C sp E t) := by
  refine ⟨fun pins s σ H Q I h => wpAny_Call_Name_kw (ld_glob I hg hm ?_ hdb)⟩
  refine PySem.W.callWith_K (h₀ := X.base) I.ok.mod.kin M.kp (thn (ha.run pos pins s σ H _ I h) fun us s1 ⟨vs, H1, I1, r, q⟩ => ⟨I1.kIn, ?_⟩) he hpl
  have want := q (s1.heap.objs.size + 1) s1.heap.objs.size (I1.hok.fresh (Nat.le_succ _)) (I1.hok.fresh (Nat.le_refl _)) (Nat.ne_of_lt (Nat.lt_succ_self _))
  have J := Inv.made (C := C) I1
  have rr : Vals (V.ref (s1.heap.objs.size + 1) :: vs) (Value.ref (s1.heap.objs.size + 1) :: us) := .cons rfl r
  have nl : (Value.ref (s1.heap.objs.size + 1) :: us).length = ps.length := by
    rw [← rr.length]
    exact F.len _ _ _ _ want
  have bb := hb ⟨(s1.heap.push PySem.W.emptyDict).push (PySem.W.instObj C s1.heap.objs.size), s1.gens, s1.drawn, s1.toks, s1.os⟩ (Value.ref (s1.heap.objs.size + 1) :: us) J.kIn (by rw [List.append_nil]; exact nl)
  rw [List.append_nil] at bb
  refine wpAny_call (make_map (f := f) I1.kIn M.makes M.init (beq_iff_eq.mp M.fn) (codeAny_mono
    (F.run _ X.stack _ _ ⟨Value.ref (s1.heap.objs.size + 1) :: us, []⟩ _ _ _ (E σ) (hr.make C us []) (J.env0.make C us []) bb rr want) fun r2 s2 z => ?_))
  match r2, z with
  | .error er, z => exact hx σ pins _ _ er s2 J z
  | .ok (.ret u), z =>
    obtain ⟨v, H', I3, rv, ev, q3⟩ := J.after z
    subst ev
    exact ⟨rv, ⟨V.ref (s1.heap.objs.size + 1), H', I3, rfl, q3⟩⟩
  | .ok .next, z => exact False.elim z
  | .ok .brk, z => exact False.elim z
  | .ok .cont, z => exact False.elim z
/-- never reached -/
theorem pt_no {e : Expr} : PT X e (fun _ _ _ => False) := ⟨fun _ _ _ _ _ _ h => h.elim⟩
theorem pe_no {e : Expr} : PE X e (fun _ _ _ => False) := ⟨fun _ _ _ _ _ _ h => h.elim⟩
theorem pss_no {st : List Stmt} : PSs X st (fun _ _ _ => False) := ⟨fun _ _ _ _ _ _ h => h.elim⟩
end
end MXg
/-! What many laws' helpers want: powers of great ints; the creel (three ints in a list at c) and what leaves all but it. -/
namespace LK
open PySem PySem.Spec PyProof.Rows L2
abbrev St := L2.St
/-- i ** j: j not below 0, the outcome of at most 2 ^ 27 bits -/
def CPowB (i j : Int) : Prop := 0 ≤ j ∧ (Builtin.Int.intBits i : Int) * j ≤ 2 ^ 27
theorem op_powB {X : Cx} : OpR X (binaryOp .Pow) (rI CPowB fun i j => .int (i ^ j.toNat)) := opI fun _ _ _ _ _ _ _ hc q => pow_int hc.1 hc.2 q
theorem bits_small {i : Int} {n : Nat} (h : i.natAbs < 2 ^ n) (h0 : 0 < n) : Builtin.Int.intBits i ≤ n := by
  unfold Builtin.Int.intBits
  split
  · omega
  · have := PySem.Flt.log2_lt_of h0 h
    omega
/-- all that was tracked is as it was, but perhaps at c -/
def Bt (c : Addr) (H H' : Hp) : Prop := ∀ b o, b ≠ c → H b = some o → H' b = some o
theorem Bt.refl (c : Addr) (H : Hp) : Bt c H H := fun _ _ _ h => h
theorem Bt.trans {c : Addr} {H H1 H2 : Hp} (a : Bt c H H1) (b : Bt c H1 H2) : Bt c H H2 := fun x o n h => b x o n (a x o n h)
theorem Bt.of {c : Addr} {H H' : Hp} (s : Same H H') : Bt c H H' := fun b o _ h => s b o h
theorem Bt.put {c : Addr} {H : Hp} {o : HO} : Bt c H (upd H c o) := fun b u n h => by
  rw [upd_ne n]
  exact h
/-- the creel at c: three ints, none below 0, the second below 10 ^ 40, the third at most B -/
def CR (H : Hp) (c : Addr) (B : Nat) : Prop := ∃ a b n : Int, H c = some (.lst [.int a, .int b, .int n]) ∧ 0 ≤ a ∧ 0 ≤ b ∧ b < 10 ^ 40 ∧ 0 ≤ n ∧ n ≤ B
theorem CR.mono {H : Hp} {c : Addr} {B B' : Nat} (h : CR H c B) (l : B ≤ B') : CR H c B' := by
  obtain ⟨a, b, n, e, h1, h2, h3, h4, h5⟩ := h
  exact ⟨a, b, n, e, h1, h2, h3, h4, by omega⟩
theorem CR.same {H H' : Hp} {c : Addr} {B : Nat} (h : CR H c B) (s : Same H H') : CR H' c B := by
  obtain ⟨a, b, n, e, r⟩ := h
  exact ⟨a, b, n, s _ _ e, r⟩
theorem CR.ne {H : Hp} {c p : Addr} {B : Nat} {o : HO} (h : CR H c B) (e : H p = some o) (d : ∀ xs, o ≠ .lst xs) : p ≠ c := by
  obtain ⟨a, b, n, ec, _⟩ := h
  exact ne_of e ec (d _)
theorem CR.fresh {H : Hp} {c p : Addr} {B : Nat} (h : CR H c B) (n : H p = none) : c ≠ p := by
  obtain ⟨a, b, k, ec, _⟩ := h
  exact ne_of_none ec n
theorem CR.upd {H : Hp} {c p : Addr} {B : Nat} {o : HO} (h : CR H c B) (n : p ≠ c) : CR (upd H p o) c B := by
  obtain ⟨a, b, k, e, r⟩ := h
  exact ⟨a, b, k, by rw [upd_ne (Ne.symm n)]; exact e, r⟩
/-- a draw: the creel goes on, the digit lies below span -/
def spPly : Sp := fun vs H Q _ => ∃ (c : Addr) (span : Int) (B : Nat), vs = [.ref c, .int span] ∧ 0 < span ∧ span < 2 ^ 60 ∧ CR H c B ∧ B < 10 ^ 12 ∧
  ∀ (d : Int) (H' : Hp), 0 ≤ d → d < span → CR H' c (B + 1) → Bt c H H' → (∀ p, H' p = none ↔ H p = none) → Q (.int d) H'
/-- the creel of a script's cell -/
def spCreel (K : PySem.W.Frag) : Sp := fun vs H Q _ => ∃ (a : Addr) (ns : List Int) (i : Nat), vs = [.ref a, .int i] ∧ SqL K H a (ns.map V.int) ∧ i ≤ 1000 ∧ ∀ (c : Addr) (H' : Hp), H c = none → CR H' c 0 → Same H H' → Q (.ref c) H'
theorem ifT {k : Bool} {A B : Prop} (e : k = true) (h : A) : if k = true then A else B := by
  rw [if_pos e]
  exact h
theorem ifF {k : Bool} {A B : Prop} (e : k = false) (h : B) : if k = true then A else B := by
  rw [e]
  exact iteF h
theorem same_new {H : Hp} {p : Addr} {o : HO} (h : H p = none) : Same H (upd H p o) := fun b u e => by
  rw [upd_ne (ne_of_none e h)]
  exact e
theorem upd_none {H : Hp} {c p : Addr} {o o' : HO} (h : H c = some o) : upd H c o' p = none ↔ H p = none := by
  by_cases e : p = c
  · rw [e, upd_same, h]
    constructor <;> intro z <;> cases z
  · rw [upd_ne e]
/-- the built-ins that the laws and the program name -/
def blts : List Str := ["isinstance", "len", "int", "range", "ValueError", "bool", "list", "set", "enumerate", "tuple", "str", "max", "min", "abs", "sorted", "zip", "all", "sum", "any", "dict", "reversed"]
abbrev Bl (mg : Str → Option Value) : Prop := ∀ n, n ∈ blts → mg n = none
end LK
namespace S8
open PySem PySem.Spec PyProof.Rows L2 LK
abbrev St := L2.St
def top (i : Nat) : Stmt := PySem.Challenge.pw_runsdown_k28_ends_further_below_and_turn.main.body.getD i (.Pass ⟨0, 0, 0, 0⟩)
abbrev sPly : Stmt := top 38
abbrev sCreel : Stmt := top 51
section
variable {P : Program} {w : World} {K : PySem.W.Frag} {mg : Str → Option Value} {base : Heap}
theorem scPly : FnScope ["creel", "span", "digit", "twine"] ["creel", "span"] (defScope sPly) := ⟨rfl, rfl, rfl, by decide +kernel, rfl, by decide +kernel, by decide +kernel⟩
theorem ok_ply {f : Addr} {fd : FuncData} (F : Fun K "_law_ply" "_law_ply" sPly f fd) (B : Bl mg) : FnOk P w K mg base CX0 1 f fd ["creel", "span"] spPly := by
  refine F.ok scPly (fun vs H Q E h => ?_) (fun cdv A outer s H vs Q E hr h => ?_)
  · obtain ⟨c, span, _, rfl, _⟩ := h
    rfl
  · obtain ⟨c, span, bb, rfl, p0, p1, ⟨a, b, n, hc, a0, b0, b1, n0, n1⟩, bB, k⟩ := h
    refine ⟨_, pss_cons (ps_if (pt_cmpR op_gt (pe_ix ix_list (pv 0) pe_int (fun _ _ => rfl)) pe_int (nomark _)) (pss_cons (ps_set (i := 2) scPly.nd rfl (Or.inl rfl) (pe_op op_mod (pe_callTy call_int1 (by rfl) (B "int" (by decide)) (by decide +kernel) (pa_cons (pe_ix ix_list (pv 0) pe_int (fun _ _ => rfl)) pa_nil)) (pv 1)))
      (pss_cons (ps_asg (pe_op op_fdivW (pe_ix ix_list (pv 0) pe_int (fun _ _ => rfl)) (pv 1)) (pg_sub (pv 0) pe_int set_list))
      (pss_one (ps_ret (pv 2))))) pss_nil)
      (pss_cons (ps_asg (pe_op op_add (pe_ix ix_list (pv 0) pe_int (fun _ _ => rfl)) pe_int) (pg_sub (pv 0) pe_int set_list))
      (pss_cons (ps_set (i := 3) scPly.nd rfl (Or.inl rfl) (pe_op op_mod (pe_op op_powB (pe_callTy call_int1 (by rfl) (B "int" (by decide)) (by decide +kernel) (pa_cons (pe_op op_add (pe_ix ix_list (pv 0) pe_int (fun _ _ => rfl)) (pe_op op_mul pe_int (pe_ix ix_list (pv 0) pe_int (fun _ _ => rfl)))) pa_nil)) pe_int) (pe_op op_add (pe_op op_pow pe_int pe_int) pe_int)))
      (pss_cons (ps_set (i := 3) scPly.nd rfl (Or.inl rfl) (pe_op op_mod (pe_op op_powB (pe_callTy call_int1 (by rfl) (B "int" (by decide)) (by decide +kernel) (pa_cons (pe_op op_add (pv 3) (pe_op op_mul pe_int (pe_ix ix_list (pv 0) pe_int (fun _ _ => rfl)))) pa_nil)) pe_int) (pe_op op_add (pe_op op_pow pe_int pe_int) pe_int)))
      (pss_one (ps_ret (pe_op op_mod (pe_op op_fdivW (pv 3) pe_int) (pv 1))))))), ?_⟩
    refine ⟨_, rfl, c, _, 0, _, rfl, rfl, SqL.of hc, atI_nat (j := 0) rfl, _, _, rfl, rfl, _, rfl, ?_⟩
    by_cases big : a > 0
    · refine LK.ifT (decide_eq_true big) ?_
      refine ⟨_, rfl, c, _, 0, _, rfl, rfl, SqL.of hc, atI_nat (j := 0) rfl, .inl ⟨_, rfl, _, rfl, _, _, rfl, rfl, p0, ?_⟩⟩
      refine ⟨_, rfl, c, _, 0, _, rfl, rfl, SqL.of hc, atI_nat (j := 0) rfl, _, rfl, _, _, rfl, rfl, wide_div (b := 60) p0 (by omega) (by decide) (by decide), ?_⟩
      refine ⟨_, rfl, c, _, _, 0, rfl, rfl, hc, rfl, ?_⟩
      exact ⟨_, rfl, k _ _ (Int.emod_nonneg _ (by omega)) (Int.emod_lt_of_pos _ p0) ⟨_, _, _, upd_same, Int.ediv_nonneg a0 (by omega), b0, b1, n0, by omega⟩ Bt.put (fun p => upd_none hc)⟩
    · refine LK.ifF (decide_eq_false big) ?_
      refine ⟨_, rfl, c, _, 2, _, rfl, rfl, SqL.of hc, atI_nat (j := 2) rfl, _, _, rfl, rfl, ?_⟩
      refine ⟨_, rfl, c, _, _, 2, rfl, rfl, hc, rfl, ?_⟩
      have hc2 : upd H c (.lst [.int a, .int b, .int (n + 1)]) c = some (.lst [.int a, .int b, .int (n + 1)]) := upd_same
      refine ⟨_, rfl, c, _, 1, _, rfl, rfl, SqL.of hc2, atI_nat (j := 1) rfl, _, rfl, c, _, 2, _, rfl, rfl, SqL.of hc2, atI_nat (j := 2) rfl, _, _, rfl, rfl, .inl ⟨by decide, by decide⟩, _, _, rfl, rfl, .inl ⟨_, rfl, ?_⟩⟩
      have m0 : 0 ≤ b + 50021 * (n + 1) := by omega
      have m1 : b + 50021 * (n + 1) < 2 ^ 140 := by
        have : (10 : Int) ^ 40 + 50021 * (10 ^ 12 + 1) < 2 ^ 140 := by decide
        omega
      have w1 := bits_small (i := b + 50021 * (n + 1)) (n := 140) (by omega) (by decide)
      refine ⟨_, _, rfl, rfl, ⟨by decide, by omega⟩, _, _, rfl, rfl, ⟨by decide, by decide, by decide⟩, _, _, rfl, rfl, _, _, rfl, rfl, (show (0 : Int) < 10 ^ 38 + 67 by decide), ?_⟩
      generalize hx : (b + 50021 * (n + 1)) ^ (2 : Int).toNat % ((10 : Int) ^ (38 : Int).toNat + 67) = x
      have x0 : 0 ≤ x := by rw [← hx]; exact Int.emod_nonneg _ (by decide)
      have x1 : x < 10 ^ 38 + 67 := by rw [← hx]; exact Int.emod_lt_of_pos _ (by decide)
      refine ⟨_, rfl, _, rfl, c, _, 2, _, rfl, rfl, SqL.of hc2, atI_nat (j := 2) rfl, _, _, rfl, rfl, .inl ⟨by decide, by decide⟩, _, _, rfl, rfl, .inl ⟨_, rfl, ?_⟩⟩
      have q0 : 0 ≤ x + 700001 * (n + 1) := by omega
      have q1 : x + 700001 * (n + 1) < 2 ^ 140 := by
        have : (10 : Int) ^ 38 + 67 + 700001 * (10 ^ 12 + 1) < 2 ^ 140 := by decide
        omega
      have w2 := bits_small (i := x + 700001 * (n + 1)) (n := 140) (by omega) (by decide)
      refine ⟨_, _, rfl, rfl, ⟨by decide, by rw [hx]; omega⟩, _, _, rfl, rfl, ⟨by decide, by decide, by decide⟩, _, _, rfl, rfl, _, _, rfl, rfl, (show (0 : Int) < 10 ^ 39 + 37 by decide), ?_⟩
      generalize hy : (x + 700001 * (n + 1)) ^ (3 : Int).toNat % ((10 : Int) ^ (39 : Int).toNat + 37) = y
      refine ⟨_, rfl, _, _, rfl, rfl, wide_div (b := 60) (by decide) (by decide) (by decide) (by decide), _, rfl, _, _, rfl, rfl, p0, ?_⟩
      exact k _ _ (Int.emod_nonneg _ (by omega)) (Int.emod_lt_of_pos _ p0) ⟨_, _, _, hc2, a0, b0, b1, by omega, by omega⟩ Bt.put (fun p => upd_none hc)
theorem scCreel : FnScope ["script", "at", "strand"] ["script", "at"] (defScope sCreel) := ⟨rfl, rfl, rfl, by decide +kernel, rfl, by decide +kernel, by decide +kernel⟩
theorem ok_creel {f : Addr} {fd : FuncData} (F : Fun K "_law_creel" "_law_creel" sCreel f fd) (B : Bl mg) : FnOk P w K mg base CX0 1 f fd ["script", "at"] (spCreel K) := by
  refine F.ok scCreel (fun vs H Q E h => ?_) (fun cdv A outer s H vs Q E hr h => ?_)
  · obtain ⟨a, ns, i, rfl, _⟩ := h
    rfl
  · obtain ⟨a, ns, i, rfl, hS, hi, k⟩ := h
    refine ⟨_, pss_cons (ps_set (i := 2) scCreel.nd rfl (Or.inl rfl) (pe_ifExp (pt_cmpR op_lt (pv 1) (pe_callB call_len_seq (by rfl) (B "len" (by decide)) (by decide +kernel) (pa_cons (pv 0) pa_nil)) (nomark _)) (pe_ix ix_list (pv 0) (pv 1) (fun _ _ => rfl)) pe_int))
      (pss_one (ps_ret (pe_lst (pa_cons (pe_callB (call_max2 rfl) (by rfl) (B "max" (by decide)) (by decide +kernel) (pa_cons pe_int (pa_cons (pe_op op_sub (pe_callB call_abs (by rfl) (B "abs" (by decide)) (by decide +kernel) (pa_cons (pv 2) pa_nil)) (pe_op op_pow pe_int pe_int)) pa_nil))) (pa_cons (pe_op op_add (pe_op op_add (pe_op op_mul (pe_op op_mod (pe_callTy call_int1 (by rfl) (B "int" (by decide)) (by decide +kernel) (pa_cons (pv 2) pa_nil)) (pe_op op_add (pe_op op_pow pe_int pe_int) pe_int)) pe_int) (pe_op op_mul pe_int (pv 1))) pe_int) (pa_cons pe_int pa_nil)))))), ?_⟩
    refine ⟨_, rfl, _, rfl, a, _, rfl, .inl hS, _, _, rfl, rfl, _, rfl, ?_⟩
    rw [List.length_map]
    have fin : ∀ z : Int, 0 ≤ (if (if z < 0 then -z else z) - 10 ^ (18 : Int).toNat > 0 then (if z < 0 then -z else z) - 10 ^ (18 : Int).toNat else 0) := fun z => by
      split <;> omega
    have m0 : ∀ z : Int, 0 ≤ z % ((10 : Int) ^ (37 : Int).toNat + 3) := fun z => Int.emod_nonneg _ (by decide)
    have m1 : ∀ z : Int, z % ((10 : Int) ^ (37 : Int).toNat + 3) < (10 : Int) ^ (37 : Int).toNat + 3 := fun z => Int.emod_lt_of_pos _ (by decide)
    have m2 : ((10 : Int) ^ (37 : Int).toNat + 3) * 71 + 60000 < 10 ^ 40 := by decide
    by_cases lt : (i : Int) < ns.length
    · refine LK.ifT (decide_eq_true lt) ?_
      obtain ⟨z, hz⟩ : ∃ z, ns[i]? = some z := ⟨ns[i]'(by omega), List.getElem?_eq_getElem (by omega)⟩
      refine ⟨_, rfl, _, rfl, a, _, (i : Int), _, rfl, rfl, hS, atI_nat (v := V.int z) (by rw [List.getElem?_map, hz]; rfl), ?_⟩
      have f0 := fin z
      have f1 := m0 z
      have f2 := m1 z
      refine ⟨_, rfl, _, rfl, _, _, rfl, rfl, ⟨by decide, by decide, by decide⟩, _, _, rfl, rfl, _, _, rfl, ?_⟩
      refine ⟨_, rfl, .inl ⟨_, rfl, _, _, rfl, rfl, ⟨by decide, by decide, by decide⟩, _, _, rfl, rfl, _, _, rfl, rfl, (show (0 : Int) < 10 ^ 37 + 3 by decide), _, _, rfl, rfl, .inr ⟨by decide, by decide⟩, _, rfl, _, _, rfl, rfl, .inl ⟨by decide, by decide⟩, _, _, rfl, rfl, _, _, rfl, rfl, ?_⟩⟩
      exact ⟨by show 3 ≤ sizeLine; decide, fun p np => k _ _ np ⟨_, _, _, upd_same, f0, by omega, by omega, by omega, by omega⟩ (same_new np)⟩
    · refine LK.ifF (decide_eq_false lt) ?_
      have f0 := fin 0
      have f1 := m0 0
      have f2 := m1 0
      refine ⟨_, rfl, _, rfl, _, _, rfl, rfl, ⟨by decide, by decide, by decide⟩, _, _, rfl, rfl, _, _, rfl, ?_⟩
      refine ⟨_, rfl, .inl ⟨_, rfl, _, _, rfl, rfl, ⟨by decide, by decide, by decide⟩, _, _, rfl, rfl, _, _, rfl, rfl, (show (0 : Int) < 10 ^ 37 + 3 by decide), _, _, rfl, rfl, .inr ⟨by decide, by decide⟩, _, rfl, _, _, rfl, rfl, .inl ⟨by decide, by decide⟩, _, _, rfl, rfl, _, _, rfl, rfl, ?_⟩⟩
      exact ⟨by show 3 ≤ sizeLine; decide, fun p np => k _ _ np ⟨_, _, _, upd_same, f0, by omega, by omega, by omega, by omega⟩ (same_new np)⟩
end
end S8
/-! What is read as data: its class, isinstance, what stays; and the compared helper's promise. -/
namespace LK
open PySem PySem.Spec PyProof.Rows L2
/-- the name of a datum's class -/
def tyN : PyData → String
  | .none => "NoneType"
  | .bool _ => "bool"
  | .int _ => "int"
  | .str _ => "str"
  | .list _ => "list"
  | .tuple _ => "tuple"
  | .dict _ => "dict"
theorem seqL_ty {K : PySem.W.Frag} {H : Hp} {a : Addr} {xs : List V} (h : SqL K H a xs) : TyX K H (.ref a) (.type "list") := by
  rcases h with (h | ⟨o, h⟩) | ⟨o, its, n, h, c, _⟩
  · exact .base (.lst h)
  · exact .base (.frz h)
  · exact .kList h c
theorem seqT_ty {K : PySem.W.Frag} {H : Hp} {a : Addr} {xs : List V} (h : SqT K H a xs) : TyX K H (.ref a) (.type "tuple") := by
  rcases h with (h | ⟨o, h⟩) | ⟨o, its, n, h, c, _⟩
  · exact .base (.tup h)
  · exact .fTuple h
  · exact .kTuple h c
theorem dp_ty {K : PySem.W.Frag} {H : Hp} {v : V} {d : PyData} (h : Dp K H v d) : TyX K H v (.type (tyN d)) := by
  cases h with
  | non => exact .base .non
  | bl b => exact .base (.bl b)
  | int i => exact .base (.int i)
  | str x => exact .base (.str x)
  | lst s _ => exact seqL_ty s
  | tup s _ => exact seqT_ty s
def isK (d : PyData) (T : String) : Bool := (kitB (tyN d) T).getD false
theorem kit_d {K : PySem.W.Frag} {H : Hp} {v : V} {d : PyData} (h : Dp K H v d) (T : String) (hT : T ∈ (["bool", "int", "str", "list", "tuple"] : List String)) : PySem.W.kitOne K (.type (tyN d)) (.type T) = some (isK d T) := by
  refine kit_ty ?_
  unfold isK
  simp only [List.mem_cons, List.not_mem_nil, or_false] at hT
  cases h <;> rcases hT with rfl | rfl | rfl | rfl | rfl <;> simp only [tyN] <;> decide +kernel
theorem kit_lt {K : PySem.W.Frag} {H : Hp} {v : V} {d : PyData} (h : Dp K H v d) : PySem.W.kitAny K (.type (tyN d)) [.type "list", .type "tuple"] = some (isK d "list" || isK d "tuple") := by
  refine kitAny_cons (kit_d h "list" (by decide)) (fun e => ?_) (fun e => by rw [e]; rfl)
  rw [e, Bool.false_or]
  refine kitAny_cons (kit_d h "tuple" (by decide)) (fun e => ?_) (fun e => e)
  rw [e]
  rfl
theorem same_tup {K : PySem.W.Frag} {H H' : Hp} {a : Addr} {xs : List V} (e : Same H H') (h : SqT K H a xs) : SqT K H' a xs := by
  rcases h with (h | ⟨o, h⟩) | h
  · exact .inl (.inl (e _ _ h))
  · exact .inl (.inr ⟨o, e _ _ h⟩)
  · exact .inr h
mutual
theorem dp_same {K : PySem.W.Frag} {H H' : Hp} (e : Same H H') : ∀ {v : V} {d : PyData}, Dp K H v d → Dp K H' v d
  | _, _, .non => .non
  | _, _, .bl b => .bl b
  | _, _, .int i => .int i
  | _, _, .str x => .str x
  | _, _, .lst s a => .lst (e.seq s) (dps_same e a)
  | _, _, .tup s a => .tup (same_tup e s) (dps_same e a)
theorem dps_same {K : PySem.W.Frag} {H H' : Hp} (e : Same H H') : ∀ {vs : List V} {ds : List PyData}, DpAll K H vs ds → DpAll K H' vs ds
  | _, _, .nil => .nil
  | _, _, .cons a r => .cons (dp_same e a) (dps_same e r)
end
/-- a list or a tuple, its items -/
theorem dp_items {K : PySem.W.Frag} {H : Hp} {v : V} {d : PyData} (h : Dp K H v d) (e : (isK d "list" || isK d "tuple") = true) : ∃ (a : Addr) (xs : List V) (ds : List PyData), v = .ref a ∧ (SqL K H a xs ∨ SqT K H a xs) ∧ DpAll K H xs ds ∧ (d = .list ds ∨ d = .tuple ds) := by
  cases h with
  | non => exact absurd e (by decide +kernel)
  | bl b => exact absurd (show (isK (.bool true) "list" || isK (.bool true) "tuple") = true from e) (by decide +kernel)
  | int i => exact absurd (show (isK (.int 0) "list" || isK (.int 0) "tuple") = true from e) (by decide +kernel)
  | str x => exact absurd (show (isK (.str "") "list" || isK (.str "") "tuple") = true from e) (by decide +kernel)
  | lst s a => exact ⟨_, _, _, rfl, .inl s, a, .inl rfl⟩
  | tup s a => exact ⟨_, _, _, rfl, .inr s, a, .inr rfl⟩
theorem dps_len {K : PySem.W.Frag} {H : Hp} : ∀ {vs : List V} {ds : List PyData}, DpAll K H vs ds → vs.length = ds.length
  | _, _, .nil => rfl
  | _, _, .cons _ r => by
    rw [List.length_cons, List.length_cons, dps_len r]
theorem dps_app {K : PySem.W.Frag} {H : Hp} : ∀ {vs us : List V} {ds es : List PyData}, DpAll K H vs ds → DpAll K H us es → DpAll K H (vs ++ us) (ds ++ es)
  | _, _, _, _, .nil, b => b
  | _, _, _, _, .cons a r, b => .cons a (dps_app r b)
theorem dps_at {K : PySem.W.Frag} {H : Hp} : ∀ {vs : List V} {ds : List PyData} {i : Nat}, DpAll K H vs ds → i < ds.length → ∃ v d, vs[i]? = some v ∧ ds[i]? = some d ∧ Dp K H v d
  | _, _, _, .nil, h => absurd h (Nat.not_lt_zero _)
  | _, _, 0, .cons a r, _ => ⟨_, _, rfl, rfl, a⟩
  | _, _, i + 1, .cons a r, h => by
    obtain ⟨v, d, h1, h2, h3⟩ := dps_at (i := i) r (Nat.lt_of_succ_lt_succ h)
    exact ⟨v, d, h1, h2, h3⟩
theorem lay_at : ∀ {ds : List PyData} {i : Nat} {d : PyData}, PyData.canLayAll0 ds = true → ds[i]? = some d → d.canLay0 = true ∧ d.depth ≤ PyData.depthAll ds
  | [], i, d, _, h => by simp at h
  | x :: r, 0, d, h, e => by
    obtain rfl : x = d := by simpa using e
    rw [PyData.canLayAll0, Bool.and_eq_true] at h
    refine ⟨h.1, ?_⟩
    simp only [PyData.depthAll]
    omega
  | x :: r, i + 1, d, h, e => by
    rw [PyData.canLayAll0, Bool.and_eq_true] at h
    obtain ⟨h1, h2⟩ := lay_at (i := i) h.2 (by simpa using e)
    refine ⟨h1, ?_⟩
    simp only [PyData.depthAll]
    omega
theorem shaped_of {d : PyData} (h : d.canLay0 = true) (n : d.depth ≤ 64) : SeqAt.shaped d = true := by
  show (d.canLay0 && decide (d.depth ≤ 64)) = true
  rw [h, decide_eq_true n]
  rfl
mutual
/-- no list or tuple of more than a million items -/
def few : PyData → Bool
  | .list xs => decide (xs.length ≤ 1000000) && fewAll xs
  | .tuple xs => decide (xs.length ≤ 1000000) && fewAll xs
  | _ => true
def fewAll : List PyData → Bool
  | [] => true
  | x :: r => few x && fewAll r
end
theorem few_at : ∀ {ds : List PyData} {i : Nat} {d : PyData}, fewAll ds = true → ds[i]? = some d → few d = true
  | [], i, d, _, h => by simp at h
  | x :: r, 0, d, h, e => by
    obtain rfl : x = d := by simpa using e
    rw [fewAll, Bool.and_eq_true] at h
    exact h.1
  | x :: r, i + 1, d, h, e => by
    rw [fewAll, Bool.and_eq_true] at h
    exact few_at (i := i) h.2 (by simpa using e)
theorem few_items {d : PyData} {ds : List PyData} (h : few d = true) (e : d = .list ds ∨ d = .tuple ds) : ds.length ≤ 1000000 ∧ fewAll ds = true := by
  rcases e with rfl | rfl <;> (unfold few at h; rw [Bool.and_eq_true] at h; exact ⟨of_decide_eq_true h.1, h.2⟩)
theorem rix_of {K : PySem.W.Frag} {H : Hp} {a : Addr} {xs : List V} {j : Nat} {i : Int} {v : V} {Q : VK} (s : SqL K H a xs ∨ SqT K H a xs) (q : xs[j]? = some v) (e : i = (j : Int)) (k : Q v H) : rIx K (.ref a) (.int i) H Q := by
  subst e
  rcases s with s | s
  · exact .inl ⟨a, xs, _, v, rfl, rfl, s, atI_nat q, k⟩
  · exact .inr (.inl ⟨a, xs, _, v, rfl, rfl, s, atI_nat q, k⟩)
theorem seq_same {K : PySem.W.Frag} {H H' : Hp} {a : Addr} {xs : List V} (e : Same H H') (s : SqL K H a xs ∨ SqT K H a xs) : SqL K H' a xs ∨ SqT K H' a xs := by
  rcases s with s | s
  · exact .inl (e.seq s)
  · exact .inr (same_tup e s)
/-- within a comprehension's block the written part must be said by its letter -/
theorem ixq {X : Cx} {K : PySem.W.Frag} (e : X.K = K := by rfl) : IxR X (rIx K) := e ▸ ix_seq
theorem ixl {X : Cx} {K : PySem.W.Frag} (e : X.K = K := by rfl) : IxR X (rIxL K) := e ▸ ix_list
theorem ixt {X : Cx} {K : PySem.W.Frag} (e : X.K = K := by rfl) : IxR X (rIxT K) := e ▸ ix_tup
/-- two things that are read as one datum match -/
def spM (K : PySem.W.Frag) (n : Nat) : Sp := fun vs H Q _ => ∃ (x y : V) (d : PyData), vs = [x, y] ∧ Dp K H x d ∧ Dp K H y d ∧ d.canLay0 = true ∧ d.depth < n ∧ d.depth ≤ 60 ∧ few d = true ∧ ∀ H', Same H H' → Q (.bl true) H'
theorem ok_never {P : Program} {w : World} {K : PySem.W.Frag} {mg : Str → Option Value} {base : Heap} {k : Nat} {f : Addr} {fd : FuncData} {ps : List Str} : FnOk P w K mg base CX0 k f fd ps (spM K 0) :=
  ⟨fun vs H Q E h => by obtain ⟨_, _, d, _, _, _, _, n, _⟩ := h; exact absurd n (Nat.not_lt_zero _), fun A outer s H args us vs Q E _ _ _ _ h => by obtain ⟨_, _, d, _, _, _, _, n, _⟩ := h; exact absurd n (Nat.not_lt_zero _)⟩
end LK
namespace S8
open PySem PySem.Spec PyProof.Rows L2 LK
abbrev sMat : Stmt := top 44
section
variable {P : Program} {w : World} {K : PySem.W.Frag} {mg : Str → Option Value} {base : Heap}
theorem scMat : FnScope ["found", "due", "k"] ["found", "due"] (defScope sMat) := ⟨rfl, rfl, rfl, by decide +kernel, rfl, by decide +kernel, by decide +kernel⟩
theorem mat_step {f : Addr} {fd : FuncData} (n : Nat) (F : Fun K "_law_matched" "_law_matched" sMat f fd) (B : Bl mg) (g_ : mg "_law_matched" = some (.ref f)) (b_ : Binds K fd ["found", "due"] []) (G : FnOk P w K mg base CX0 n f fd ["found", "due"] (spM K n)) :
    FnOk P w K mg base CX0 (n + 1) f fd ["found", "due"] (spM K (n + 1)) := by
  refine F.ok scMat (fun vs H Q E h => ?_) (fun cdv A outer s H vs Q E hr h => ?_)
  · obtain ⟨x, y, d, rfl, _⟩ := h
    rfl
  · obtain ⟨x, y, d, rfl, hx, hy, lay, dn, d60, fw, k⟩ := h
    refine ⟨_, pss_cons (ps_if (PW.pt (pw_or (pt_val (pe_callB call_isi (by rfl) (B "isinstance" (by decide)) (by decide +kernel) (pa_cons (pv 0) (pa_cons (pe_bltn (v := .ty "bool") rfl (B "bool" (by decide)) (by decide +kernel) rfl) pa_nil)))) (pw_or1 (pt_val (pe_callB call_isi (by rfl) (B "isinstance" (by decide)) (by decide +kernel) (pa_cons (pv 1) (pa_cons (pe_bltn (v := .ty "bool") rfl (B "bool" (by decide)) (by decide +kernel) rfl) pa_nil))))))) (pss_one (ps_ret (pe_and (pe_callB call_isi (by rfl) (B "isinstance" (by decide)) (by decide +kernel) (pa_cons (pv 0) (pa_cons (pe_bltn (v := .ty "bool") rfl (B "bool" (by decide)) (by decide +kernel) rfl) pa_nil))) (pe_and (pe_callB call_isi (by rfl) (B "isinstance" (by decide)) (by decide +kernel) (pa_cons (pv 1) (pa_cons (pe_bltn (v := .ty "bool") rfl (B "bool" (by decide)) (by decide +kernel) rfl) pa_nil))) (pe_one (pe_cmpR (op_eqD hr.units) (pv 0) (pv 1) (nomark _))))))) pss_nil)
      (pss_cons (ps_if (PW.pt (pw_or (pt_cmpR op_ne (pe_callB call_isi (by rfl) (B "isinstance" (by decide)) (by decide +kernel) (pa_cons (pv 0) (pa_cons (pe_bltn (v := .ty "list") rfl (B "list" (by decide)) (by decide +kernel) rfl) pa_nil))) (pe_callB call_isi (by rfl) (B "isinstance" (by decide)) (by decide +kernel) (pa_cons (pv 1) (pa_cons (pe_bltn (v := .ty "list") rfl (B "list" (by decide)) (by decide +kernel) rfl) pa_nil))) (nomark _)) (pw_or1 (pt_cmpR op_ne (pe_callB call_isi (by rfl) (B "isinstance" (by decide)) (by decide +kernel) (pa_cons (pv 0) (pa_cons (pe_bltn (v := .ty "tuple") rfl (B "tuple" (by decide)) (by decide +kernel) rfl) pa_nil))) (pe_callB call_isi (by rfl) (B "isinstance" (by decide)) (by decide +kernel) (pa_cons (pv 1) (pa_cons (pe_bltn (v := .ty "tuple") rfl (B "tuple" (by decide)) (by decide +kernel) rfl) pa_nil))) (nomark _))))) (pss_one (ps_ret pe_bl)) pss_nil)
      (pss_cons (ps_if (PW.pt (pw_or (pt_cmpR op_ne (pe_callB call_isi (by rfl) (B "isinstance" (by decide)) (by decide +kernel) (pa_cons (pv 0) (pa_cons (pe_bltn (v := .ty "str") rfl (B "str" (by decide)) (by decide +kernel) rfl) pa_nil))) (pe_callB call_isi (by rfl) (B "isinstance" (by decide)) (by decide +kernel) (pa_cons (pv 1) (pa_cons (pe_bltn (v := .ty "str") rfl (B "str" (by decide)) (by decide +kernel) rfl) pa_nil))) (nomark _)) (pw_or1 (pt_cmpR op_ne (pe_callB call_isi (by rfl) (B "isinstance" (by decide)) (by decide +kernel) (pa_cons (pv 0) (pa_cons (pe_bltn (v := .ty "int") rfl (B "int" (by decide)) (by decide +kernel) rfl) pa_nil))) (pe_callB call_isi (by rfl) (B "isinstance" (by decide)) (by decide +kernel) (pa_cons (pv 1) (pa_cons (pe_bltn (v := .ty "int") rfl (B "int" (by decide)) (by decide +kernel) rfl) pa_nil))) (nomark _))))) (pss_one (ps_ret pe_bl)) pss_nil)
      (pss_cons (ps_if (pt_val (pe_callB call_isiT (by rfl) (B "isinstance" (by decide)) (by decide +kernel) (pa_cons (pv 1) (pa_cons (pe_tup (pa_cons (pe_bltn (v := .ty "list") rfl (B "list" (by decide)) (by decide +kernel) rfl) (pa_cons (pe_bltn (v := .ty "tuple") rfl (B "tuple" (by decide)) (by decide +kernel) rfl) pa_nil))) pa_nil)))) (pss_cons (ps_if (pt_cmpR op_ne (pe_callB call_len_seq (by rfl) (B "len" (by decide)) (by decide +kernel) (pa_cons (pv 0) pa_nil)) (pe_callB call_len_seq (by rfl) (B "len" (by decide)) (by decide +kernel) (pa_cons (pv 1) pa_nil)) (nomark _)) (pss_one (ps_ret pe_bl)) pss_nil)
      (pss_one (ps_ret (pe_cmpR (op_eqD hr.units) (pe_lc (own := [("k", 2)]) (g := gName 2) rfl scMat.nd (pi_range1 (by rfl) (B "range" (by decide)) (pa_cons (pe_callB call_len_seq (by rfl) (B "len" (by decide)) (by decide +kernel) (pa_cons (pv 1) pa_nil)) pa_nil)) (blkOk_by (N := ["found", "due", "k"]) (sc := defScope sMat) (by decide +kernel)) (fun _ _ _ _ _ => pg_name (i := 2) scMat.nd rfl (Or.inl rfl)) (fun _ _ _ _ _ => pts_one (pt_not (pt_val (pe_call (E := E0) G hr rfl g_ F.kp b_ .nil pass0 (pa_cons (pe_ix (ixq (K := K)) (pv 0) (pv 2) (fun _ _ => rfl)) (pa_cons (pe_ix (ixq (K := K)) (pv 1) (pv 2) (fun _ _ => rfl)) pa_nil)))))) (fun _ _ _ _ _ => pv 2)) (pe_lst pa_nil) (nomark _))))) pss_nil)
      (pss_one (ps_ret (pe_and (pe_cmpR op_eq (pe_cmpR op_isN (pv 0) pe_non (nomark _)) (pe_cmpR op_isN (pv 1) pe_non (nomark _)) (nomark _)) (pe_one (pe_cmpR (op_eqD hr.units) (pv 0) (pv 1) (nomark _))))))))), ?_⟩
    have sh : SeqAt.shaped d = true := shaped_of lay (by omega)
    have is1 : ∀ T, T ∈ (["bool", "int", "str", "list", "tuple"] : List String) → PySem.W.kitOne K (.type (tyN d)) (.type T) = some (isK d T) := fun T hT => kit_d hx T hT
    -- bool?
    refine ⟨_, rfl, _, _, _, _, _, rfl, .ty "bool", dp_ty hx, is1 "bool" (by decide), _, rfl, ?_⟩
    by_cases e1 : isK d "bool" = true
    · refine LK.ifT e1 (LK.ifT rfl ?_)
      refine ⟨_, rfl, _, _, _, _, _, rfl, .ty "bool", dp_ty hx, is1 "bool" (by decide), _, rfl, LK.ifT e1 ?_⟩
      refine ⟨_, rfl, _, _, _, _, _, rfl, .ty "bool", dp_ty hy, is1 "bool" (by decide), _, rfl, LK.ifT e1 ?_⟩
      refine ⟨_, rfl, _, rfl, d, d, hx, hy, sh, sh, ?_⟩
      rw [SeqAt.eqv_refl d lay]
      exact k H (Same.refl H)
    have e1' : isK d "bool" = false := by simpa using e1
    refine LK.ifF e1' ?_
    refine ⟨_, rfl, _, _, _, _, _, rfl, .ty "bool", dp_ty hy, is1 "bool" (by decide), _, rfl, LK.ifF e1' ?_⟩
    -- the kinds agree
    refine ⟨_, rfl, _, _, _, _, _, rfl, .ty "list", dp_ty hx, is1 "list" (by decide), _, rfl, _, _, _, _, _, rfl, .ty "list", dp_ty hy, is1 "list" (by decide), rfl, _, rfl, LK.ifF (by simp) ?_⟩
    refine ⟨_, rfl, _, _, _, _, _, rfl, .ty "tuple", dp_ty hx, is1 "tuple" (by decide), _, rfl, _, _, _, _, _, rfl, .ty "tuple", dp_ty hy, is1 "tuple" (by decide), rfl, _, rfl, LK.ifF (by simp) ?_⟩
    refine ⟨_, rfl, _, _, _, _, _, rfl, .ty "str", dp_ty hx, is1 "str" (by decide), _, rfl, _, _, _, _, _, rfl, .ty "str", dp_ty hy, is1 "str" (by decide), rfl, _, rfl, LK.ifF (by simp) ?_⟩
    refine ⟨_, rfl, _, _, _, _, _, rfl, .ty "int", dp_ty hx, is1 "int" (by decide), _, rfl, _, _, _, _, _, rfl, .ty "int", dp_ty hy, is1 "int" (by decide), rfl, _, rfl, LK.ifF (by simp) ?_⟩
    -- a list or a tuple?
    refine ⟨_, rfl, by show 2 ≤ sizeLine; decide, fun tp ntp => ⟨_, tp, _, _, _, _, rfl, upd_same, .cons (.ty "list") (.cons (.ty "tuple") .nil), dp_ty (dp_same (same_new ntp) hy), kit_lt hy, _, rfl, ?_⟩⟩
    have s1 : Same H (upd H tp (.tup [.ty "list", .ty "tuple"])) := same_new ntp
    have hx1 := dp_same s1 hx
    have hy1 := dp_same s1 hy
    by_cases e2 : (isK d "list" || isK d "tuple") = true
    · refine LK.ifT e2 ?_
      obtain ⟨a, xs, ds, rfl, sa, da, dd⟩ := dp_items hx1 e2
      obtain ⟨b, ys, es, rfl, sb, db, de⟩ := dp_items hy1 e2
      have ee : es = ds := by
        rcases dd with rfl | rfl <;> rcases de with q | q <;> cases q <;> rfl
      subst ee
      have l1 := dps_len da
      have l2 := dps_len db
      have lay2 : PyData.canLayAll0 es = true := by
        rcases dd with rfl | rfl <;> simpa only [PyData.canLay0] using lay
      have dep : PyData.depthAll es + 1 = d.depth := by
        rcases dd with rfl | rfl <;> rfl
      refine ⟨_, rfl, a, _, rfl, sa, _, rfl, b, _, rfl, sb, rfl, _, rfl, LK.ifF (by rw [l1, l2]; simp) ?_⟩
      obtain ⟨big, fw2⟩ := few_items fw dd
      refine ⟨_, rfl, b, _, rfl, sb, (ys.length : Int), rfl, by omega, by omega, fun D nD => ?_⟩
      refine lc_range (lo := 0) (n := ys.length) (fun j H' => Same (upd H tp (.tup [.ty "list", .ty "tuple"])) H' ∧ H' D = some (.lst [])) ⟨same_new nD, upd_same⟩ (fun j H' hj hh => ⟨rfl, ?_⟩) (fun H' hh => ?_)
      · obtain ⟨s2, hD⟩ := hh
        obtain ⟨v1, d1, q1, q2, q3⟩ := dps_at (dps_same s2 da) (i := j) (by omega)
        obtain ⟨v2, d2, p1, p2, p3⟩ := dps_at (dps_same s2 db) (i := j) (by omega)
        obtain rfl : d1 = d2 := Option.some.inj (q2.symm.trans p2)
        obtain ⟨la, ld⟩ := lay_at lay2 q2
        refine ⟨_, rfl, _, rfl, rix_of (seq_same s2 sa) q1 (Int.zero_add _) ⟨_, rfl, _, rfl, rix_of (seq_same s2 sb) p1 (Int.zero_add _) ?_⟩⟩
        exact ⟨v1, v2, d1, rfl, q3, p3, la, by omega, by omega, few_at fw2 q2, fun H3 s3 => ⟨_, rfl, LK.ifF rfl ⟨s2.trans s3, s3 _ _ hD⟩⟩⟩
      · obtain ⟨s2, hD⟩ := hh
        refine ⟨by show 0 ≤ sizeLine; decide, fun q nq => ?_⟩
        have s3 : Same H' (upd H' q (.lst [])) := same_new nq
        refine ⟨_, _, .lst (SqL.of (s3 _ _ hD)) .nil, .lst (SqL.of upd_same) .nil, by decide +kernel, by decide +kernel, ?_⟩
        exact k _ ((s1.trans s2).trans s3)
    · have e2' : (isK d "list" || isK d "tuple") = false := by simpa using e2
      refine LK.ifF e2' ?_
      refine ⟨_, rfl, rfl, _, rfl, rfl, rfl, _, rfl, LK.ifT ?_ ⟨_, rfl, _, rfl, d, d, hx1, hy1, sh, sh, ?_⟩⟩
      · cases hx with
        | non => cases hy; rfl
        | bl b => cases hy; rfl
        | int i => cases hy; rfl
        | str x => cases hy; rfl
        | lst s a => exact absurd e2 (by simp [isK, tyN]; decide +kernel)
        | tup s a => exact absurd e2 (by simp [isK, tyN]; decide +kernel)
      · rw [SeqAt.eqv_refl d lay]
        exact k _ s1
end
end S8
namespace S8
open PySem PySem.Spec PyProof.Rows L2 LK
/-- a loop as it is read: its thread, its parents -/
abbrev Lp := Str × List Int
def lpD (l : Lp) : PyData := .tuple [.str l.1, .tuple (l.2.map PyData.int)]
/-- the numbers of the loops that have spot among their parents -/
def kidsOf (ls : List Lp) (spot : Int) : List Nat := (List.range ls.length).filter fun k => match ls[k]? with
  | some l => decide (spot ∈ l.2)
  | none => false
def spKids (K : PySem.W.Frag) : Sp := fun vs H Q _ => ∃ (a : Addr) (spot : Int) (xs : List V) (ls : List Lp), vs = [.ref a, .int spot] ∧ SqL K H a xs ∧ DpAll K H xs (ls.map lpD) ∧ ls.length ≤ 100000 ∧
  ∀ (H' : Hp) (p : Addr), H p = none → Same H H' → H' p = some (.lst ((kidsOf ls spot).map fun k : Nat => V.int (k : Int))) → Q (.ref p) H'
theorem inV_int (i : Int) : ∀ ns : List Int, inV (.int i) (ns.map V.int) = decide (i ∈ ns)
  | [] => by simp [inV]
  | n :: r => by
    have h := inV_int i r
    unfold inV at h ⊢
    rw [List.map_cons, List.any_cons, h]
    by_cases e : n = i
    · subst e
      simp [eqV]
    · have e' : ¬ i = n := fun z => e z.symm
      simp [eqV, e, e']
theorem flat_ints (ns : List Int) : (ns.map V.int).all flatV = true := by
  rw [List.all_map]
  exact List.all_eq_true.mpr fun _ _ => rfl
theorem dp_ints {K : PySem.W.Frag} {H : Hp} : ∀ {xs : List V} {ns : List Int}, DpAll K H xs (ns.map PyData.int) → xs = ns.map V.int
  | _, [], .nil => rfl
  | _, n :: r, .cons (.int _) t => by rw [dp_ints t]; rfl
theorem filt_more (f : Nat → Bool) (n : Nat) : (List.range (n + 1)).filter f = (List.range n).filter f ++ (if f n then [n] else []) := by
  rw [List.range_succ, List.filter_append]
  congr 1
  simp [List.filter_cons]
section
variable {P : Program} {w : World} {K : PySem.W.Frag} {mg : Str → Option Value} {base : Heap}
theorem inq {X : Cx} {K : PySem.W.Frag} (e : X.K = K := by rfl) : OpR X (compareOp .In) (rIn K false) := e ▸ op_in_seq
end
end S8
/-! Threads: the laws' letters, the words made of them. -/
namespace LK
open PySem PySem.Spec PyProof.Rows L2
def abc : Str := "abcdefghijklmnopqrstuvwxyz"
/-- the letter of number m -/
def lett (m : Nat) : Str := ⟨#[97 + m]⟩
theorem abc_len : abc.length ≤ sizeLine := by decide +kernel
theorem abc_at {i : Int} (h0 : 0 ≤ i) (h : i < 26) : atI abc.cps.toList i = some (97 + i.toNat) := by
  obtain ⟨n, rfl⟩ := Int.eq_ofNat_of_zero_le h0
  have : ∀ n < 26, atI abc.cps.toList ((n : Nat) : Int) = some (97 + n) := by decide +kernel
  exact this n (by omega)
/-- one to eight small letters -/
def Lt (z : Str) : Prop := ∀ c ∈ z.cps.toList, 97 ≤ c ∧ c ≤ 122
def Yn (z : Str) : Prop := 1 ≤ z.length ∧ z.length ≤ 8 ∧ Lt z
theorem len_app (x y : Str) : (x ++ y).length = x.length + y.length := by
  show (x ++ y).cps.size = x.cps.size + y.cps.size
  rw [PySem.Str.cps_append, Array.size_append]
theorem lt_app {x y : Str} (a : Lt x) (b : Lt y) : Lt (x ++ y) := fun c h => by
  rw [PySem.Str.cps_append, Array.toList_append, List.mem_append] at h
  exact h.elim (a c) (b c)
theorem lt_lett {m : Nat} (h : m < 26) : Lt (lett m) := fun c e => by
  have : c = 97 + m := by simpa [lett] using e
  omega
theorem len_lett (m : Nat) : (lett m).length = 1 := rfl
theorem lt_cut {z : Str} (h : Lt z) (lo hi : Option Int) : Lt (cutS z lo hi) := fun c e => by
  refine h c ?_
  unfold cutS at e
  simp only [] at e
  exact List.mem_of_mem_drop (List.mem_of_mem_take e)
theorem join_lt : ∀ (ys : List Str), (∀ y ∈ ys, Lt y) → Lt (Str.join "" ys) ∧ (Str.join "" ys).length = (ys.map (·.length)).sum
  | [], _ => ⟨fun c e => by rw [show (Str.join "" []).cps.toList = [] by decide +kernel] at e; exact absurd e List.not_mem_nil, rfl⟩
  | [y], h => ⟨h y (List.mem_cons_self ..), by simp [Str.join]⟩
  | y :: z :: r, h => by
    obtain ⟨a, b⟩ := join_lt (z :: r) fun x hx => h x (List.mem_cons_of_mem _ hx)
    have e0 : Lt ("" : Str) := fun c e => by rw [show ("" : Str).cps.toList = [] by decide +kernel] at e; exact absurd e List.not_mem_nil
    have z0 : ("" : Str).length = 0 := by decide +kernel
    refine ⟨lt_app (lt_app (h y (List.mem_cons_self ..)) e0) a, ?_⟩
    show (y ++ "" ++ Str.join "" (z :: r)).length = _
    rw [len_app, len_app, b, z0]
    simp only [List.map_cons, List.sum_cons]
    omega
theorem sum_ones : ∀ (ys : List Str), (∀ y ∈ ys, y.length = 1) → (ys.map (·.length)).sum = ys.length
  | [], _ => rfl
  | y :: r, h => by
    rw [List.map_cons, List.sum_cons, h y (List.mem_cons_self ..), sum_ones r fun x hx => h x (List.mem_cons_of_mem _ hx), List.length_cons, Nat.add_comm]
theorem join_ab (ys : List Str) (h : ∀ y ∈ ys, Lt y ∧ y.length = 1) : Lt (Txt.join "" ys) ∧ (Txt.join "" ys).length = ys.length := by
  show Lt (Builtin.Str.glued "" ys) ∧ (Builtin.Str.glued "" ys).length = _
  rw [StrLaws.glued_eq_join]
  obtain ⟨a, b⟩ := join_lt ys fun y hy => (h y hy).1
  exact ⟨a, b.trans (sum_ones ys fun y hy => (h y hy).2)⟩
theorem app_inj {m n k : Nat} (e : lett m ++ lett k = lett n ++ lett k) : m = n := by
  have e1 : (lett m ++ lett k).cps.toList = (lett n ++ lett k).cps.toList := by rw [e]
  rw [PySem.Str.cps_append, PySem.Str.cps_append, Array.toList_append, Array.toList_append] at e1
  simp [lett] at e1
  exact e1
/-- more pigeons than holes -/
theorem sub_len {α : Type} [DecidableEq α] : ∀ (xs ys : List α), xs.Nodup → (∀ x ∈ xs, x ∈ ys) → xs.length ≤ ys.length
  | [], _, _, _ => Nat.zero_le _
  | x :: r, ys, nd, h => by
    have hx := h x (List.mem_cons_self ..)
    have l := List.length_erase_of_mem hx
    have p : 0 < ys.length := List.length_pos_of_mem hx
    have nd' := List.nodup_cons.mp nd
    have := sub_len r (ys.erase x) nd'.2 fun y hy => (List.mem_erase_of_ne (fun e => nd'.1 (by rw [← e]; exact hy))).mpr (h y (List.mem_cons_of_mem _ hy))
    simp only [List.length_cons]
    omega
theorem hole {α : Type} [DecidableEq α] (xs ys : List α) (nd : xs.Nodup) (l : ys.length < xs.length) : ∃ x ∈ xs, x ∉ ys := by
  by_cases h : ∃ x ∈ xs, x ∉ ys
  · exact h
  · have := sub_len xs ys nd fun x hx => by
      by_cases e : x ∈ ys
      · exact e
      · exact absurd ⟨x, hx, e⟩ h
    omega
/-- the words that are spare -/
def spare (s k : Nat) : List Str := (List.range 26).map fun t => lett ((s + t) % 26) ++ lett k
theorem spare_nodup (s k : Nat) (h : s < 26) : (spare s k).Nodup := by
  have nd : ∀ s < 26, ((List.range 26).map fun t => (s + t) % 26).Nodup := by decide +kernel
  have e : spare s k = ((List.range 26).map fun t => (s + t) % 26).map fun m => lett m ++ lett k := by
    unfold spare
    rw [List.map_map]
    rfl
  rw [e]
  exact List.Pairwise.map _ (fun a b ne q => ne (app_inj q)) (nd s h)
theorem spare_yn {s k : Nat} (hk : k < 26) {w : Str} (h : w ∈ spare s k) : Yn w := by
  obtain ⟨t, _, rfl⟩ := List.mem_map.mp h
  refine ⟨?_, ?_, lt_app (lt_lett (Nat.mod_lt _ (by decide))) (lt_lett hk)⟩
  · rw [len_app, len_lett, len_lett]
    decide
  · rw [len_app, len_lett, len_lett]
    decide
theorem spare_free {s k : Nat} (h : s < 26) (found : List Str) (l : found.length < 26) : (spare s k).filter (fun w => decide (w ∉ found)) ≠ [] := by
  obtain ⟨w, hw, n⟩ := hole (spare s k) found (spare_nodup s k h) (by rw [spare, List.length_map, List.length_range]; exact l)
  intro e
  have : w ∈ (spare s k).filter (fun w => decide (w ∉ found)) := List.mem_filter.mpr ⟨hw, decide_eq_true n⟩
  rw [e] at this
  exact List.not_mem_nil this
theorem cut_max (z : Str) (lo hi : Option Int) : (cutS z lo hi).length ≤ HT.sIx z.length z.length hi - HT.sIx z.length 0 lo := by
  show (((z.cps.toList.drop (HT.sIx z.length 0 lo)).take (HT.sIx z.length z.length hi - HT.sIx z.length 0 lo)).toArray).size ≤ _
  rw [List.size_toArray, List.length_take]
  exact Nat.min_le_left _ _
theorem cut_seven (z : Str) : (cutS z none (some 7)).length ≤ 7 := by
  refine Nat.le_trans (cut_max z _ _) ?_
  rw [show HT.sIx z.length z.length (some 7) = min 7 z.length from HT.sIx_nat _ _ 7, HT.sIx_none]
  omega
theorem cut_last {z : Str} (h : z.length ≤ 8) : (cutS z none (some (-1))).length ≤ 7 := by
  refine Nat.le_trans (cut_max z _ _) ?_
  have : HT.sIx z.length z.length (some (-1)) = ((-1 : Int) + (z.length : Int)).toNat := rfl
  rw [this, HT.sIx_none]
  omega
theorem yn_one {y : Str} (m : Nat) (hm : m < 26) (l : y.length ≤ 7) (h : Lt y) : Yn (y ++ lett m) := by
  refine ⟨?_, ?_, lt_app h (lt_lett hm)⟩ <;> (rw [len_app, len_lett]; omega)
/-- texts of small letters are read as data -/
theorem ok_lt {z : Str} (h : Lt z) : PyData.canLay0 (.str z) = true := by
  show z.cps.all (· < 0x110000) = true
  rw [Array.all_eq_true_iff_forall_mem]
  intro c hc
  have := h c (by simpa using hc)
  exact decide_eq_true (by omega)
theorem lay_strs : ∀ ys : List Str, (∀ y ∈ ys, Lt y) → PyData.canLayAll0 (ys.map PyData.str) = true ∧ PyData.depthAll (ys.map PyData.str) ≤ 1
  | [], _ => ⟨rfl, by decide⟩
  | y :: r, h => by
    obtain ⟨a, b⟩ := lay_strs r fun x hx => h x (List.mem_cons_of_mem _ hx)
    constructor
    · rw [List.map_cons, PyData.canLayAll0, ok_lt (h y (List.mem_cons_self ..)), a]
      rfl
    · simp only [List.map_cons, PyData.depthAll, PyData.depth]
      omega
theorem dp_strs {K : PySem.W.Frag} {H : Hp} : ∀ ys : List Str, DpAll K H (ys.map V.str) (ys.map PyData.str)
  | [] => .nil
  | y :: r => .cons (.str y) (dp_strs r)
theorem sh_strs {ys : List Str} (h : ∀ y ∈ ys, Lt y) : SeqAt.shaped (.list (ys.map PyData.str)) = true := by
  obtain ⟨a, b⟩ := lay_strs ys h
  refine shaped_of (by simpa only [PyData.canLay0] using a) ?_
  simp only [PyData.depth]
  omega
theorem eqv_nil (ys : List Str) : PyData.eqv (.list (ys.map PyData.str)) (.list []) = ys.isEmpty := by
  cases ys with
  | nil => rfl
  | cons y r => rfl
theorem at_last {ys : List Str} (h : ys ≠ []) : ∃ y ∈ ys, atI (ys.map V.str) (-1) = some (.str y) := by
  refine ⟨ys.getLast h, List.getLast_mem h, ?_⟩
  have e : ys.map V.str = ys.dropLast.map V.str ++ [V.str (ys.getLast h)] := by
    have := congrArg (List.map V.str) (List.dropLast_concat_getLast h)
    rw [List.map_append] at this
    exact this.symm
  rw [e]
  exact atI_last _ _
theorem inV_str (y : Str) : ∀ ys : List Str, inV (.str y) (ys.map V.str) = decide (y ∈ ys)
  | [] => by simp [inV]
  | x :: r => by
    have h := inV_str y r
    unfold inV at h ⊢
    rw [List.map_cons, List.any_cons, h]
    by_cases e : x = y
    · subst e
      simp [eqV]
    · have e' : ¬ y = x := fun z => e z.symm
      simp [eqV, e, e']
theorem flat_strs (ys : List Str) : (ys.map V.str).all flatV = true := by
  rw [List.all_map]
  exact List.all_eq_true.mpr fun _ _ => rfl
/-- the rest, from a word that holds at its start -/
theorem seqJ {A R : TS} {D : Ends} {σ : St} {H : Hp} (J : St → Hp → Prop) (hR : ∀ σ' H', J σ' H' → R D σ' H') (h : (∀ σ' H', J σ' H' → R D σ' H') → tSeq A R D σ H) : tSeq A R D σ H := h hR
end LK
namespace S8
open PySem PySem.Spec PyProof.Rows L2 LK
abbrev sYarns : Stmt := top 45
/-- a list of texts at D -/
def Ys (H : Hp) (D : Addr) (ys : List Str) : Prop := H D = some (.lst (ys.map V.str))
/-- many threads, drawn -/
def spYarns : Sp := fun vs H Q _ => ∃ (c : Addr) (many B : Nat), vs = [.ref c, .int many] ∧ many ≤ 25 ∧ CR H c B ∧ B + 1000 < 10 ^ 12 ∧
  ∀ (D : Addr) (H' : Hp) (ys : List Str), H D = none → CR H' c (B + 1000) → Bt c H H' → Ys H' D ys → ys.length = many → (∀ y ∈ ys, Yn y) → Q (.ref D) H'
/-- what stays through the turns -/
def Wd (H Hn : Hp) (c D : Addr) (B : Nat) (ys : List Str) : Prop := c ≠ D ∧ CR Hn c B ∧ Bt c H Hn ∧ Ys Hn D ys
theorem Wd.call {H Hn H' : Hp} {c D : Addr} {B : Nat} {ys : List Str} (h : Wd H Hn c D B ys) (h1 : CR H' c (B + 1)) (bt : Bt c Hn H') : Wd H H' c D (B + 1) ys := ⟨h.1, h1, h.2.2.1.trans bt, bt _ _ h.1.symm h.2.2.2⟩
theorem Wd.new {H Hn : Hp} {c D p : Addr} {B : Nat} {ys : List Str} {o : HO} (h : Wd H Hn c D B ys) (np : Hn p = none) : Wd H (upd Hn p o) c D B ys :=
  ⟨h.1, h.2.1.same (same_new np), h.2.2.1.trans (Bt.of (same_new np)), same_new np _ _ h.2.2.2⟩
theorem Wd.gone {H Hn : Hp} {c D p : Addr} {B : Nat} {ys : List Str} (h : Wd H Hn c D B ys) (np : Hn p = none) : H p = none ∧ p ≠ c ∧ p ≠ D := by
  have pc : p ≠ c := (h.2.1.fresh np).symm
  refine ⟨?_, pc, (ne_of_none h.2.2.2 np).symm⟩
  cases e : H p with
  | none => rfl
  | some o => rw [h.2.2.1 p o pc e] at np; cases np
theorem Wd.upd {H Hn : Hp} {c D p : Addr} {B : Nat} {ys : List Str} {o : HO} (h : Wd H Hn c D B ys) (g : H p = none ∧ p ≠ c ∧ p ≠ D) : Wd H (upd Hn p o) c D B ys :=
  ⟨h.1, h.2.1.upd g.2.1, fun b u n e => by rw [upd_ne (ne_of_none e g.1)]; exact h.2.2.1 b u n e, by unfold Ys; rw [upd_ne g.2.2.symm]; exact h.2.2.2⟩
theorem Wd.mono {H Hn : Hp} {c D : Addr} {B B' : Nat} {ys : List Str} (h : Wd H Hn c D B ys) (l : B ≤ B') : Wd H Hn c D B' ys := ⟨h.1, h.2.1.mono l, h.2.2⟩
theorem Wd.app {H Hn : Hp} {c D : Addr} {B : Nat} {ys : List Str} (h : Wd H Hn c D B ys) (nD : H D = none) (y : Str) : Wd H (L2.upd Hn D (.lst (ys.map V.str ++ [V.str y]))) c D B (ys ++ [y]) :=
  ⟨h.1, h.2.1.upd h.1.symm, fun b u n e => by rw [upd_ne (ne_of_none e nD)]; exact h.2.2.1 b u n e, by unfold Ys; rw [upd_same, List.map_append]; rfl⟩
theorem pick3 {d : Int} {k : Int} (d0 : 0 ≤ d) (d1 : d < 8) (k0 : 0 ≤ k) (k1 : k < 3) : ∃ z : Int, 0 ≤ z ∧ z < 8 ∧ atI [V.int 0, .int 1, .int d] k = some (.int z) := by
  obtain rfl | rfl | rfl : k = 0 ∨ k = 1 ∨ k = 2 := by omega
  · exact ⟨0, by decide, by decide, rfl⟩
  · exact ⟨1, by decide, by decide, rfl⟩
  · exact ⟨d, d0, d1, rfl⟩
section
variable {P : Program} {w : World} {K : PySem.W.Frag} {mg : Str → Option Value} {base : Heap}
theorem scYarns : FnScope ["creel", "many", "signs", "found", "k", "size", "sign", "yarn", "spare", "turn_v", "word"] ["creel", "many"] (defScope sYarns) := ⟨rfl, rfl, rfl, by decide +kernel, rfl, by decide +kernel, by decide +kernel⟩
theorem ninq {X : Cx} {K : PySem.W.Frag} (e : X.K = K := by rfl) : OpR X (compareOp .NotIn) (rIn K true) := e ▸ op_notIn_seq
theorem ok_yarns {f fp : Addr} {fd fdp : FuncData} (F : Fun K "_law_yarns" "_law_yarns" sYarns f fd) (Fp : Fun K "_law_ply" "_law_ply" sPly fp fdp) (B : Bl mg) (gp : mg "_law_ply" = some (.ref fp)) (bp : Binds K fdp ["creel", "span"] []) (Gp : FnOk P w K mg base CX0 1 fp fdp ["creel", "span"] spPly) :
    FnOk P w K mg base CX0 2 f fd ["creel", "many"] spYarns := by
  refine F.ok scYarns (fun vs H Q E h => ?_) (fun cdv A outer s H vs Q E hr h => ?_)
  · obtain ⟨c, many, bb, rfl, _⟩ := h
    rfl
  · obtain ⟨c, many, bb, rfl, hm, hc, hB, k⟩ := h
    refine ⟨_, pss_cons (ps_asg (pe_tup (pa_cons pe_str (pa_cons (pe_lst pa_nil) pa_nil))) (pg_tup rfl (pgs_cons (pg_name (i := 2) scYarns.nd rfl (Or.inr rfl)) (pgs_cons (pg_name (i := 3) scYarns.nd rfl (Or.inr rfl)) pgs_nil))))
      (pss_cons (ps_for PassesOwn.never rfl (pi_range1 (by rfl) (B "range" (by decide)) (pa_cons (pv 1) pa_nil)) (pg_name (i := 4) scYarns.nd rfl (Or.inr rfl)) (pss_cons (ps_asg (pe_tup (pa_cons (pe_ix ix_list (pe_lst (pa_cons pe_int (pa_cons pe_int (pa_cons (pe_call (E := E0) Gp hr rfl gp Fp.kp bp .nil pass0 (pa_cons (pv 0) (pa_cons pe_int pa_nil))) pa_nil)))) (pe_call (E := E0) Gp hr rfl gp Fp.kp bp .nil pass0 (pa_cons (pv 0) (pa_cons pe_int pa_nil))) (fun _ _ => rfl)) (pa_cons (pe_call (E := E0) Gp hr rfl gp Fp.kp bp .nil pass0 (pa_cons (pv 0) (pa_cons pe_int pa_nil))) pa_nil))) (pg_tup rfl (pgs_cons (pg_name (i := 5) scYarns.nd rfl (Or.inl rfl)) (pgs_cons (pg_name (i := 6) scYarns.nd rfl (Or.inr rfl)) pgs_nil))))
      (pss_cons (ps_set (i := 7) scYarns.nd rfl (Or.inl rfl) (pe_op op_add_str (pe_ix ix_str (pv 2) (pv 6) (fun _ _ => rfl)) (pe_join pe_str (pe_lc (own := [("turn_v", 9)]) (g := gName 9) (tt := tYes) rfl scYarns.nd (pi_range1 (by rfl) (B "range" (by decide)) (pa_cons (pv 5) pa_nil)) (blkOk_by (N := ["creel", "many", "signs", "found", "k", "size", "sign", "yarn", "spare", "turn_v", "word"]) (sc := defScope sYarns) (by decide +kernel)) (fun _ _ _ _ _ => pg_name (i := 9) scYarns.nd rfl (Or.inl rfl)) (fun _ _ _ _ _ => pts_nil) (fun _ _ _ _ _ => pe_ix ix_str (pv 2) (pe_call (E := E0) Gp hr rfl gp Fp.kp bp .nil pass0 (pa_cons (pv 0) (pa_cons pe_int pa_nil))) (fun _ _ => rfl))))))
      (pss_cons (ps_if (PW.pt (pw_and (pt_cmpR (op_neD hr.units) (pv 3) (pe_lst pa_nil) (nomark _)) (pw_and1 (pt_cmpR op_eq (pe_call (E := E0) Gp hr rfl gp Fp.kp bp .nil pass0 (pa_cons (pv 0) (pa_cons pe_int pa_nil))) pe_int (nomark _))))) (pss_one (ps_set (i := 7) scYarns.nd rfl (Or.inl rfl) (pe_ix ix_list (pe_lst (pa_cons (pe_op op_add_str (pe_slice sl_str (pe_ix ix_list (pv 3) (pe_un un_neg pe_int) (fun _ _ => rfl)) po_none (po_some pe_int)) (pe_ix ix_str (pv 2) (pv 6) (fun _ _ => rfl))) (pa_cons (pe_op op_add_str (pe_slice sl_str (pe_ix ix_list (pv 3) (pe_un un_neg pe_int) (fun _ _ => rfl)) po_none (po_some (pe_un un_neg pe_int))) (pe_ix ix_str (pv 2) (pv 6) (fun _ _ => rfl))) pa_nil))) (pe_call (E := E0) Gp hr rfl gp Fp.kp bp .nil pass0 (pa_cons (pv 0) (pa_cons pe_int pa_nil))) (fun _ _ => rfl)))) pss_nil)
      (pss_cons (ps_setLc (i := 8) (own := [("turn_v", 9)]) (g := gName 9) (tt := tYes) rfl scYarns.nd rfl rfl (sw_true rfl rfl rfl (by decide +kernel)) (pi_range1 (by rfl) (B "range" (by decide)) (pa_cons pe_int pa_nil)) (blkOk_by (N := ["creel", "many", "signs", "found", "k", "size", "sign", "yarn", "spare", "turn_v", "word"]) (sc := defScope sYarns) (by decide +kernel)) (fun _ _ _ _ _ => pg_name (i := 9) scYarns.nd rfl (Or.inl rfl)) (fun _ _ _ _ _ => pts_nil) (fun _ _ _ _ _ => pe_op op_add_str (pe_ix ix_str (pv 2) (pe_op op_mod (pe_op op_add (pv 6) (pv 9)) pe_int) (fun _ _ => rfl)) (pe_ix ix_str (pv 2) (pv 4) (fun _ _ => rfl))))
      (pss_one (ps_expr (pe_bm PySem.F.plainAttrs_list PySem.F.slot_list_append PySem.F.type_list_append mt_append (pv 3) (pa_cons (pe_ifExp (pt_cmpR op_notIn_seq (pv 7) (pv 3) (by rfl)) (pv 7) (pe_ix ix_list (pe_lc (own := [("word", 10)]) (g := gName 10) rfl scYarns.nd (pi_list (pv 8)) (blkOk_by (N := ["creel", "many", "signs", "found", "k", "size", "sign", "yarn", "spare", "turn_v", "word"]) (sc := defScope sYarns) (by decide +kernel)) (fun _ _ _ _ _ => pg_name (i := 10) scYarns.nd rfl (Or.inl rfl)) (fun _ _ _ _ _ => pts_one (pt_cmpR (ninq (K := K)) (pv 10) (pv 3) (by rfl))) (fun _ _ _ _ _ => pv 10)) pe_int (fun _ _ => rfl))) pa_nil)))))))))
      (pss_one (ps_ret (pv 3)))), ?_⟩
    refine ⟨(by show 0 ≤ sizeLine; decide), fun D nD => ⟨(by show 2 ≤ sizeLine; decide), fun T nT => ⟨T, _, rfl, .inl (.inl upd_same), rfl, _, _, rfl, _, _, rfl, rfl, ?_⟩⟩⟩
    have cD : c ≠ D := hc.fresh nD
    have cT : c ≠ T := by
      intro e
      subst e
      obtain ⟨_, _, _, e, _⟩ := hc
      rw [upd_ne cD, e] at nT
      cases nT
    have DT : D ≠ T := by
      intro e
      subst e
      rw [upd_same] at nT
      cases nT
    refine ⟨_, rfl, (many : Int), rfl, by omega, by omega, ?_⟩
    refine for_range (lo := 0) (n := many) (fun i σ H' => ∃ (ys : List Str) (o4 o5 o6 o7 o8 : Option V), σ = [some (.ref c), some (.int many), some (.str abc), some (.ref D), o4, o5, o6, o7, o8, none, none] ∧ ys.length = i ∧ (∀ y ∈ ys, Yn y) ∧ Wd H H' c D (bb + 40 * i) ys)
      ⟨[], _, _, _, _, _, rfl, rfl, fun y h => absurd h List.not_mem_nil, cD, (hc.upd cD.symm).upd cT.symm, fun b o _ e => same_new nT _ _ (same_new nD _ _ e), by unfold Ys; rw [upd_ne DT, upd_same]; rfl⟩ (fun i σ H1 hi hI => ?_) (fun σ H1 hI => ?_)
    · obtain ⟨ys, o4, o5, o6, o7, o8, rfl, hl, hn, hw⟩ := hI
      refine ⟨_, rfl, c, 8, _, rfl, by decide, by decide, hw.2.1, by omega, fun d1 H2 d10 d11 h2 b2 n2 => ?_⟩
      have hw2 := hw.call h2 b2
      refine ⟨(by show 3 ≤ sizeLine; decide), fun L nL => ?_⟩
      have hw3 := hw2.new (o := .lst [.int 0, .int 1, .int d1]) nL
      refine ⟨_, rfl, c, 3, _, rfl, by decide, by decide, hw3.2.1, by omega, fun d3 H3 d30 d31 h3 b3 n3 => ?_⟩
      have hw4 := hw3.call h3 b3
      have hL : H3 L = some (.lst [.int 0, .int 1, .int d1]) := b3 _ _ (hw2.2.1.fresh nL).symm upd_same
      obtain ⟨z, z0, z1, hz⟩ := pick3 d10 d11 d30 d31
      refine ⟨L, _, _, _, rfl, rfl, SqL.of hL, hz, ?_⟩
      refine ⟨_, rfl, c, 26, _, rfl, by decide, by decide, hw4.2.1, by omega, fun d4 H4 d40 d41 h4 b4 n4 => ?_⟩
      have hw5 := hw4.call h4 b4
      refine ⟨(by show 2 ≤ sizeLine; decide), fun T2 nT2 => ⟨T2, _, rfl, .inl (.inl upd_same), rfl, _, _, rfl, _, _, rfl, rfl, ?_⟩⟩
      have hw6 := hw5.new (o := .tup [.int z, .int d4]) nT2
      refine ⟨_, rfl, _, rfl, abc, d4, _, rfl, rfl, abc_len, abc_at d40 d41, ?_⟩
      refine ⟨⟨_, rfl⟩, _, rfl, z, rfl, by omega, by omega, fun G nG => ?_⟩
      have gG := hw6.gone nG
      refine lc_range (lo := 0) (n := z.toNat) (fun j H' => ∃ zs : List Str, H' G = some (.lst (zs.map V.str)) ∧ zs.length = j ∧ (∀ y ∈ zs, Lt y ∧ y.length = 1) ∧ Wd H H' c D (bb + 40 * i + 3 + j) ys) ⟨[], upd_same, rfl, fun y h => absurd h List.not_mem_nil, hw6.upd gG⟩ (fun j H' hj hh => ⟨rfl, ?_⟩) (fun H' hh => ?_)
      · obtain ⟨zs, hG, hzl, hzs, hw7⟩ := hh
        refine ⟨_, rfl, _, rfl, c, 26, _, rfl, by decide, by decide, hw7.2.1, by omega, fun d5 H5 d50 d51 h5 b5 n5 => ?_⟩
        refine ⟨abc, d5, _, rfl, rfl, abc_len, abc_at d50 d51, _, b5 _ _ gG.2.1 hG, ?_, zs ++ [lett d5.toNat], ?_, ?_, ?_, ?_⟩
        · rw [List.length_map, hzl]
          have : j < 8 := by omega
          exact Nat.lt_of_lt_of_le this (by decide)
        · rw [upd_same, List.map_append]
          rfl
        · rw [List.length_append, hzl]
          rfl
        · intro y hy
          rcases List.mem_append.mp hy with hy | hy
          · exact hzs y hy
          · obtain rfl := List.mem_singleton.mp hy
            exact ⟨lt_lett (by omega), rfl⟩
        · exact (hw7.call h5 b5).upd gG
      · obtain ⟨zs, hG, hzl, hzs, hw7⟩ := hh
        obtain ⟨jl, jn⟩ := join_ab zs hzs
        have y1 : Yn (lett d4.toNat ++ Txt.join "" zs) := by
          refine ⟨?_, ?_, lt_app (lt_lett (by omega)) jl⟩
          · rw [len_app, jn, hzl, len_lett]
            omega
          · rw [len_app, jn, hzl, len_lett]
            omega
        have s1 := sum_ones zs fun y hy => (hzs y hy).2
        refine ⟨_, _, zs, rfl, rfl, .inl (SqL.of hG), ?_, _, _, rfl, rfl, ?_, ?_⟩
        · rw [s1, hzl]
          have : ("" : Str).length = 0 := by decide +kernel
          rw [this]
          omega
        · rw [jn, hzl]
          have : (lett d4.toNat).length + z.toNat ≤ 8 := by
            rw [len_lett]
            omega
          exact Nat.le_trans this (by decide)
        have hw8 := hw7.mono (B' := bb + 40 * i + 10) (by omega)
        have d4n : d4.toNat < 26 := by omega
        dsimp only [gName]
        refine seqJ (fun σ' H' => ∃ y : Str, σ' = [some (.ref c), some (.int many), some (.str abc), some (.ref D), some (.int (0 + (i : Int))), some (.int z), some (.int d4), some (.str y), o8, none, none] ∧ Yn y ∧ Wd H H' c D (bb + 40 * i + 12) ys) (fun σ' H8 hJ => ?_) (fun go => ?_)
        · obtain ⟨y, rfl, hy, hw9⟩ := hJ
          -- the spare words
          have iz : (0 + (i : Int)) = (i : Int) := Int.zero_add _
          refine ⟨26, rfl, by decide, by decide, fun S nS => ?_⟩
          have gS := hw9.gone nS
          refine lc_range (lo := 0) (n := 26) (fun j H' => H' S = some (.lst (((List.range j).map fun t => lett ((d4.toNat + t) % 26) ++ lett i).map V.str)) ∧ Wd H H' c D (bb + 40 * i + 12) ys) ⟨upd_same, hw9.upd gS⟩ (fun j H' hj hh => ⟨rfl, ?_⟩) (fun H' hh => ?_)
          · obtain ⟨hS, hwe⟩ := hh
            have m0 : 0 ≤ (d4 + (0 + (j : Int))) % 26 := Int.emod_nonneg _ (by decide)
            have m1 : (d4 + (0 + (j : Int))) % 26 < 26 := Int.emod_lt_of_pos _ (by decide)
            have m2 : ((d4 + (0 + (j : Int))) % 26).toNat = (d4.toNat + j) % 26 := by omega
            refine ⟨_, rfl, _, rfl, _, rfl, d4, _, rfl, rfl, _, _, rfl, rfl, (show (0 : Int) < 26 by decide), abc, _, _, rfl, rfl, abc_len, abc_at m0 m1, ?_⟩
            refine ⟨_, rfl, _, rfl, abc, (0 + (i : Int)), _, rfl, rfl, abc_len, abc_at (by omega) (by omega), _, _, rfl, rfl, ?_, _, hS, ?_, ?_, hwe.upd gS⟩
            · show 1 + 1 ≤ sizeLine
              decide
            · rw [List.length_map, List.length_map, List.length_range]
              exact Nat.lt_trans hj (by decide)
            · rw [upd_same, List.range_succ, List.map_append, List.map_append, m2]
              have : (0 + (i : Int)).toNat = i := by omega
              rw [this]
              rfl
          · obtain ⟨hS, hwe⟩ := hh
            have hS' : H' S = some (.lst ((spare d4.toNat i).map V.str)) := hS
            refine ⟨_, rfl, .inl ⟨rfl, _, SqL.of hwe.2.2.2⟩, _, rfl, _, rfl, D, _, rfl, .inl (SqL.of hwe.2.2.2), rfl, LK.flat_strs ys, _, rfl, ?_⟩
            have yl : (ys.map V.str).length < sizeLine := by
              rw [List.length_map, hl]
              exact Nat.lt_of_lt_of_le (by omega : i < 100) (by decide)
            show if (!inV (.str y) (ys.map V.str)) = true then _ else _
            rw [inV_str]
            by_cases hin : y ∈ ys
            · rw [decide_eq_true hin]
              refine LK.ifF rfl ?_
              refine ⟨_, rfl, S, rfl, ⟨_, SqL.of hS'⟩, fun G2 nG2 => ?_⟩
              have gG2 := hwe.gone nG2
              have sG2 : S ≠ G2 := ne_of_none hS' nG2
              refine lc_list (K := K) (a := S) (xs := (spare d4.toNat i).map V.str) (fun j H' => H' G2 = some (.lst ((((spare d4.toNat i).take j).filter fun w => decide (w ∉ ys)).map V.str)) ∧ H' S = some (.lst ((spare d4.toNat i).map V.str)) ∧ Wd H H' c D (bb + 40 * i + 12) ys)
                ⟨upd_same, by rw [upd_ne sG2]; exact hS', hwe.upd gG2⟩ (fun j H' hj hh => SqL.of hh.2.1) (fun j x H' hx hh => ⟨rfl, ?_⟩) (fun H' hh => ?_)
              · obtain ⟨h1, h2, h3⟩ := hh
                rw [List.getElem?_map] at hx
                obtain ⟨w1, hw1, rfl⟩ := Option.map_eq_some_iff.mp hx
                refine ⟨_, rfl, _, rfl, D, _, rfl, .inl (SqL.of h3.2.2.2), rfl, LK.flat_strs ys, _, rfl, ?_⟩
                show if (!inV (.str w1) (ys.map V.str)) = true then _ else _
                have tk : (spare d4.toNat i).take (j + 1) = (spare d4.toNat i).take j ++ [w1] := by
                  rw [List.take_succ, hw1]
                  rfl
                rw [inV_str, tk, List.filter_append]
                by_cases hin1 : w1 ∈ ys
                · rw [decide_eq_true hin1]
                  refine LK.ifF rfl ⟨?_, h2, h3⟩
                  rw [h1]
                  simp [hin1]
                · rw [decide_eq_false hin1]
                  refine LK.ifT rfl ⟨_, rfl, _, h1, ?_, ?_, ?_, h3.upd gG2⟩
                  · rw [List.length_map]
                    have z1 := List.length_filter_le (fun w => decide (w ∉ ys)) ((spare d4.toNat i).take j)
                    have z2 : ((spare d4.toNat i).take j).length ≤ 26 := by
                      rw [List.length_take]
                      have : (spare d4.toNat i).length = 26 := by rw [spare, List.length_map, List.length_range]
                      omega
                    exact Nat.lt_of_le_of_lt (Nat.le_trans z1 z2) (by decide)
                  · rw [upd_same]
                    simp [hin1]
                  · rw [upd_ne sG2]
                    exact h2
              · obtain ⟨h1, h2, h3⟩ := hh
                have full : (spare d4.toNat i).take ((spare d4.toNat i).map V.str).length = spare d4.toNat i := by
                  rw [List.length_map, List.take_length]
                rw [full] at h1
                have fr := spare_free (s := d4.toNat) (k := i) d4n ys (by omega)
                obtain ⟨w1, ws, hws⟩ : ∃ w1 ws, (spare d4.toNat i).filter (fun w => decide (w ∉ ys)) = w1 :: ws := by
                  cases e : (spare d4.toNat i).filter (fun w => decide (w ∉ ys)) with
                  | nil => exact absurd e fr
                  | cons a b => exact ⟨a, b, rfl⟩
                have wm : w1 ∈ spare d4.toNat i := (List.mem_filter.mp (hws ▸ List.mem_cons_self .. : w1 ∈ (spare d4.toNat i).filter (fun w => decide (w ∉ ys)))).1
                rw [hws] at h1
                refine ⟨G2, _, 0, _, rfl, rfl, SqL.of h1, atI_nat (j := 0) rfl, D, _, _, rfl, rfl, h3.2.2.2, yl, ys ++ [w1], _, _, _, _, _, rfl, ?_, ?_, (h3.app nD w1).mono (by omega)⟩
                · rw [List.length_append, hl]
                  rfl
                · intro q hq
                  rcases List.mem_append.mp hq with hq | hq
                  · exact hn q hq
                  · obtain rfl := List.mem_singleton.mp hq
                    exact spare_yn (by omega) wm
            · rw [decide_eq_false hin]
              refine LK.ifT rfl ⟨_, rfl, D, _, _, rfl, rfl, hwe.2.2.2, yl, ys ++ [y], _, _, _, _, _, rfl, ?_, ?_, (hwe.app nD y).mono (by omega)⟩
              · rw [List.length_append, hl]
                rfl
              · intro q hq
                rcases List.mem_append.mp hq with hq | hq
                · exact hn q hq
                · obtain rfl := List.mem_singleton.mp hq
                  exact hy
        · refine ⟨_, rfl, (by show 0 ≤ sizeLine; decide), fun E1 nE => ?_⟩
          have hwa := hw8.new (o := .lst []) nE
          refine ⟨.list (ys.map PyData.str), .list [], .lst (SqL.of hwa.2.2.2) (dp_strs ys), .lst (SqL.of upd_same) .nil, sh_strs fun y hy => (hn y hy).2.2, by decide, _, rfl, ?_⟩
          rw [eqv_nil]
          by_cases em : ys = []
          · subst em
            refine LK.ifF rfl (LK.ifF rfl ?_)
            exact go _ _ ⟨_, rfl, y1, hwa.mono (by omega)⟩
          refine LK.ifT (by cases ys with | nil => exact absurd rfl em | cons _ _ => rfl) ?_
          refine ⟨_, rfl, c, 3, _, rfl, by decide, by decide, hwa.2.1, by omega, fun d6 H6 d60 d61 h6 b6 n6 => ⟨rfl, _, rfl, ?_⟩⟩
          have hwb := hwa.call h6 b6
          by_cases e0 : V.int d6 = V.int 0
          · refine LK.ifT (decide_eq_true e0) ?_
            obtain ⟨y0, hy0, at0⟩ := at_last em
            obtain ⟨q1, q2, q3⟩ := hn y0 hy0
            have sz : sizeLine ≥ 100 := by decide
            have c7 := cut_seven y0
            have c8 := cut_last q2
            have a1 := yn_one d4.toNat d4n c7 (lt_cut q3 none (some 7))
            have a2 := yn_one d4.toNat d4n c8 (lt_cut q3 none (some (-1)))
            refine ⟨_, rfl, 1, rfl, D, _, -1, _, rfl, rfl, SqL.of hwb.2.2.2, at0, 7, rfl, y0, rfl, by omega, ?_⟩
            refine ⟨_, rfl, _, rfl, abc, d4, _, rfl, rfl, abc_len, abc_at d40 d41, _, _, rfl, rfl, ?_, ?_⟩
            · show (cutS y0 none (some 7)).length + 1 ≤ sizeLine
              omega
            refine ⟨_, rfl, 1, rfl, D, _, -1, _, rfl, rfl, SqL.of hwb.2.2.2, at0, 1, rfl, _, rfl, y0, rfl, by omega, ?_⟩
            refine ⟨_, rfl, _, rfl, abc, d4, _, rfl, rfl, abc_len, abc_at d40 d41, _, _, rfl, rfl, ?_, ?_⟩
            · show (cutS y0 none (some (-1))).length + 1 ≤ sizeLine
              omega
            refine ⟨(by show 2 ≤ sizeLine; decide), fun L2 nL2 => ?_⟩
            have hwc := hwb.new (o := .lst [.str (cutS y0 none (some 7) ++ lett d4.toNat), .str (cutS y0 none (some (-1)) ++ lett d4.toNat)]) nL2
            refine ⟨_, rfl, c, 2, _, rfl, by decide, by decide, hwc.2.1, by omega, fun d7 H7 d70 d71 h7 b7 n7 => ?_⟩
            have hwd := hwc.call h7 b7
            have hL2 := b7 _ _ (hwb.2.1.fresh nL2).symm (upd_same (H := H6) (o := .lst [.str (cutS y0 none (some 7) ++ lett d4.toNat), .str (cutS y0 none (some (-1)) ++ lett d4.toNat)]))
            obtain rfl | rfl : d7 = 0 ∨ d7 = 1 := by omega
            · exact ⟨L2, _, 0, _, rfl, rfl, SqL.of hL2, rfl, go _ _ ⟨_, rfl, a1, hwd.mono (by omega)⟩⟩
            · exact ⟨L2, _, 1, _, rfl, rfl, SqL.of hL2, rfl, go _ _ ⟨_, rfl, a2, hwd.mono (by omega)⟩⟩
          · refine LK.ifF (decide_eq_false e0) ?_
            exact go _ _ ⟨_, rfl, y1, hwb.mono (by omega)⟩
    · obtain ⟨ys, o4, o5, o6, o7, o8, rfl, hl, hn, hw⟩ := hI
      exact ⟨_, rfl, k D H1 ys nD (hw.2.1.mono (by omega)) hw.2.2.1 hw.2.2.2 hl hn⟩
end
end S8
namespace S8
open PySem PySem.Spec PyProof.Rows L2 LK
/-- what is no list stays -/
def Tk (H H' : Hp) : Prop := ∀ b o, (∀ xs, o ≠ .lst xs) → H b = some o → H' b = some o
theorem Tk.bt {c : Addr} {H H' : Hp} {B : Nat} (h : CR H c B) (b : Bt c H H') : Tk H H' := fun x o no e => b x o (h.ne e no) e
theorem Tk.same {H H' : Hp} (s : Same H H') : Tk H H' := fun x o _ e => s x o e
theorem Tk.own {H : Hp} {p : Addr} {xs : List V} {o : HO} (h : H p = some (.lst xs)) : Tk H (upd H p o) := fun x u no e => by
  rw [upd_ne (ne_of e h (no _))]
  exact e
theorem Tk.trans {H H1 H2 : Hp} (a : Tk H H1) (b : Tk H1 H2) : Tk H H2 := fun x o n e => b x o n (a x o n e)
theorem sqT_tk {K : PySem.W.Frag} {H H' : Hp} {a : Addr} {xs : List V} (e : Tk H H') (h : SqT K H a xs) : SqT K H' a xs := by
  rcases h with (h | ⟨o, h⟩) | h
  · exact .inl (.inl (e _ _ (fun _ q => by cases q) h))
  · exact .inl (.inr ⟨o, e _ _ (fun _ q => by cases q) h⟩)
  · exact .inr h
theorem dp_tk_ints {K : PySem.W.Frag} {H H' : Hp} : ∀ {xs : List V} {ns : List Int}, DpAll K H xs (ns.map PyData.int) → DpAll K H' xs (ns.map PyData.int)
  | _, [], .nil => .nil
  | _, n :: r, .cons (.int _) t => .cons (.int _) (dp_tk_ints t)
theorem dp_ints_of {K : PySem.W.Frag} {H : Hp} : ∀ ns : List Int, DpAll K H (ns.map V.int) (ns.map PyData.int)
  | [] => .nil
  | n :: r => .cons (.int n) (dp_ints_of r)
theorem lp_tk {K : PySem.W.Frag} {H H' : Hp} (e : Tk H H') {x : V} {l : Lp} (h : Dp K H x (lpD l)) : Dp K H' x (lpD l) := by
  cases h with
  | tup s a =>
    cases a with
    | cons d1 a =>
      cases d1
      cases a with
      | cons d2 dn =>
        cases dn
        cases d2 with
        | tup s2 a2 => exact .tup (sqT_tk e s) (.cons (.str _) (.cons (.tup (sqT_tk e s2) (dp_tk_ints a2)) .nil))
theorem lps_tk {K : PySem.W.Frag} {H H' : Hp} (e : Tk H H') : ∀ {xs : List V} {ls : List Lp}, DpAll K H xs (ls.map lpD) → DpAll K H' xs (ls.map lpD)
  | _, [], .nil => .nil
  | _, _ :: _, .cons a r => .cons (lp_tk e a) (lps_tk e r)
/-- the loops under way: the list at L -/
def Wa (K : PySem.W.Frag) (H Hn : Hp) (c L : Addr) (B : Nat) (ls : List Lp) (xs : List V) : Prop := c ≠ L ∧ CR Hn c B ∧ Bt c H Hn ∧ Hn L = some (.lst xs) ∧ DpAll K Hn xs (ls.map lpD)
theorem Wa.call {K : PySem.W.Frag} {H Hn H' : Hp} {c L : Addr} {B : Nat} {ls : List Lp} {xs : List V} (h : Wa K H Hn c L B ls xs) (h1 : CR H' c (B + 1)) (bt : Bt c Hn H') : Wa K H H' c L (B + 1) ls xs :=
  ⟨h.1, h1, h.2.2.1.trans bt, bt _ _ h.1.symm h.2.2.2.1, lps_tk (Tk.bt h.2.1 bt) h.2.2.2.2⟩
theorem Wa.new {K : PySem.W.Frag} {H Hn : Hp} {c L p : Addr} {B : Nat} {ls : List Lp} {xs : List V} {o : HO} (h : Wa K H Hn c L B ls xs) (np : Hn p = none) : Wa K H (upd Hn p o) c L B ls xs :=
  ⟨h.1, h.2.1.same (same_new np), h.2.2.1.trans (Bt.of (same_new np)), same_new np _ _ h.2.2.2.1, lps_tk (Tk.same (same_new np)) h.2.2.2.2⟩
theorem Wa.same {K : PySem.W.Frag} {H Hn H' : Hp} {c L : Addr} {B : Nat} {ls : List Lp} {xs : List V} (h : Wa K H Hn c L B ls xs) (s : Same Hn H') : Wa K H H' c L B ls xs :=
  ⟨h.1, h.2.1.same s, h.2.2.1.trans (Bt.of s), s _ _ h.2.2.2.1, lps_tk (Tk.same s) h.2.2.2.2⟩
theorem Wa.gone {K : PySem.W.Frag} {H Hn : Hp} {c L p : Addr} {B : Nat} {ls : List Lp} {xs : List V} (h : Wa K H Hn c L B ls xs) (np : Hn p = none) : H p = none ∧ p ≠ c ∧ p ≠ L := by
  have pc : p ≠ c := (h.2.1.fresh np).symm
  refine ⟨?_, pc, (ne_of_none h.2.2.2.1 np).symm⟩
  cases e : H p with
  | none => rfl
  | some o => rw [h.2.2.1 p o pc e] at np; cases np
theorem Wa.own {K : PySem.W.Frag} {H Hn : Hp} {c L p : Addr} {B : Nat} {ls : List Lp} {xs zs : List V} {o : HO} (h : Wa K H Hn c L B ls xs) (g : H p = none ∧ p ≠ c ∧ p ≠ L) (e : Hn p = some (.lst zs)) : Wa K H (upd Hn p o) c L B ls xs :=
  ⟨h.1, h.2.1.upd g.2.1, fun b u n e' => by rw [upd_ne (ne_of_none e' g.1)]; exact h.2.2.1 b u n e', by rw [upd_ne g.2.2.symm]; exact h.2.2.2.1, lps_tk (Tk.own e) h.2.2.2.2⟩
theorem Wa.mono {K : PySem.W.Frag} {H Hn : Hp} {c L : Addr} {B B' : Nat} {ls : List Lp} {xs : List V} (h : Wa K H Hn c L B ls xs) (l : B ≤ B') : Wa K H Hn c L B' ls xs := ⟨h.1, h.2.1.mono l, h.2.2⟩
theorem Wa.app {K : PySem.W.Frag} {H Hn : Hp} {c L : Addr} {B : Nat} {ls : List Lp} {xs : List V} {x : V} {l : Lp} (h : Wa K H Hn c L B ls xs) (nL : H L = none) (d : Dp K Hn x (lpD l)) : Wa K H (upd Hn L (.lst (xs ++ [x]))) c L B (ls ++ [l]) (xs ++ [x]) :=
  ⟨h.1, h.2.1.upd h.1.symm, fun b u n e => by rw [upd_ne (ne_of_none e nL)]; exact h.2.2.1 b u n e, upd_same, by
    rw [List.map_append]
    exact dps_app (lps_tk (Tk.own h.2.2.2.1) h.2.2.2.2) (.cons (lp_tk (Tk.own h.2.2.2.1) d) .nil)⟩
/-- loops as they may stand: threads of ys, parents ahead, ascending -/
def OkLs (ys : List Str) (ls : List Lp) : Prop := ∀ (k : Nat) (l : Lp), ls[k]? = some l → l.1 ∈ ys ∧ l.2.Pairwise (· < ·) ∧ l.2.length ≤ 5 ∧ ∀ p ∈ l.2, 0 ≤ p ∧ p < (k : Int)
def OkFs (n : Nat) (fs : List Int) : Prop := fs.Nodup ∧ ∀ x ∈ fs, 0 ≤ x ∧ x < (n : Int)
theorem okls_app {ys : List Str} {ls : List Lp} {l : Lp} (h : OkLs ys ls) (h1 : l.1 ∈ ys) (h2 : l.2.Pairwise (· < ·)) (h3 : l.2.length ≤ 5) (h4 : ∀ p ∈ l.2, 0 ≤ p ∧ p < (ls.length : Int)) : OkLs ys (ls ++ [l]) := by
  intro k m e
  rw [List.getElem?_append] at e
  split at e
  · exact h k m e
  · rename_i hk
    have : k - ls.length = 0 := by
      cases hq : k - ls.length with
      | zero => rfl
      | succ q => rw [hq] at e; simp at e
    rw [this] at e
    obtain rfl : l = m := by simpa using e
    have hk2 : k = ls.length := by omega
    subst hk2
    exact ⟨h1, h2, h3, h4⟩
theorem sh_ints (ns : List Int) : SeqAt.shaped (.list (ns.map PyData.int)) = true := by
  have h : ∀ ns : List Int, PyData.canLayAll0 (ns.map PyData.int) = true ∧ PyData.depthAll (ns.map PyData.int) = 0 := by
    intro ns
    induction ns with
    | nil => exact ⟨rfl, rfl⟩
    | cons n r ih =>
      constructor
      · rw [List.map_cons, PyData.canLayAll0, ih.1]
        rfl
      · simp only [List.map_cons, PyData.depthAll, PyData.depth, ih.2]
        rfl
  obtain ⟨a, b⟩ := h ns
  refine shaped_of (by simpa only [PyData.canLay0] using a) ?_
  simp only [PyData.depth, b]
  decide
theorem eqv_nili (ns : List Int) : PyData.eqv (.list (ns.map PyData.int)) (.list []) = ns.isEmpty := by
  cases ns with
  | nil => rfl
  | cons y r => rfl
theorem pick8 {k : Int} (k0 : 0 ≤ k) (k1 : k < 8) : ∃ z : Int, 0 ≤ z ∧ z ≤ 5 ∧ atI [V.int 0, .int 1, .int 1, .int 1, .int 2, .int 2, .int 3, .int 5] k = some (.int z) := by
  obtain rfl | rfl | rfl | rfl | rfl | rfl | rfl | rfl : k = 0 ∨ k = 1 ∨ k = 2 ∨ k = 3 ∨ k = 4 ∨ k = 5 ∨ k = 6 ∨ k = 7 := by omega
  all_goals exact ⟨_, by decide, by decide, rfl⟩
section
variable {P : Program} {w : World} {K : PySem.W.Frag} {mg : Str → Option Value} {base : Heap}
theorem eqDq {X : Cx} {K : PySem.W.Frag} (hu : X.A.units + 64 < cLine) (e : X.K = K := by rfl) : OpR X (compareOp .Eq) (rEqD K) := e ▸ op_eqD hu
def spAny (K : PySem.W.Frag) : Sp := fun vs H Q _ => ∃ (c ya : Addr) (most B : Nat) (ys : List Str), vs = [.ref c, .int most, .ref ya] ∧ most ≤ 1000 ∧ CR H c B ∧ B + 20000 < 10 ^ 12 ∧ Ys H ya ys ∧ ys ≠ [] ∧ ys.length ≤ 1000 ∧
  ∀ (t L G : Addr) (H' : Hp) (ls : List Lp) (xs : List V) (fs : List Int), H L = none → H G = none → L ≠ G → H' t = some (.tup [.ref L, .ref G]) → H' L = some (.lst xs) → DpAll K H' xs (ls.map lpD) → H' G = some (.lst (fs.map V.int)) → CR H' c (B + 20000) → Bt c H H' → ls.length ≤ most → OkLs ys ls → OkFs ls.length fs → Q (.ref t) H'
end
end S8
namespace S8
open PySem PySem.Spec PyProof.Rows L2 LK
/-- over a text's signs -/
theorem lc_str {x : Str} {g : TG} {tt : TT} {te : TE} {vs : List Nat} {σ : L2.St} {H1 : Hp} {D : Addr} {Qd : Hp → Prop} (Pv : Nat → Hp → Prop) (h0 : Pv 0 (upd H1 D (.lst [])))
    (hs : ∀ i c H, x.cps.toList[i]? = some c → Pv i H → g (.str ⟨#[c]⟩) (wipe σ vs) H fun σ2 H2 => wipe σ2 vs = wipe σ vs ∧ tt σ2 H2 fun b H3 =>
      if b = true then te σ2 H3 fun y H4 => ∃ acc, H4 D = some (.lst acc) ∧ acc.length < sizeLine ∧ Pv (i + 1) (upd H4 D (.lst (acc ++ [y]))) else Pv (i + 1) H3) (hd : ∀ H, Pv x.cps.toList.length H → Qd H) :
    ∃ W : Nat → Nat → Hp → Prop, (∃ m, W 0 m (upd H1 D (.lst []))) ∧ ∀ i m H, W i m H →
      ((Its x).stop i H ∧ Qd H) ∨ ((Its x).go i H ∧ ∃ Nx : Hp → Prop, (∀ H', Nx H' → ∃ m', m' < m ∧ W (i + 1) m' H') ∧ ∀ v H', (Its x).yld i H v H' → g v (wipe σ vs) H' fun σ2 H2 => wipe σ2 vs = wipe σ vs ∧ tt σ2 H2 fun b H3 =>
        if b = true then te σ2 H3 fun y H4 => ∃ acc, H4 D = some (.lst acc) ∧ acc.length < sizeLine ∧ Nx (upd H4 D (.lst (acc ++ [y]))) else Nx H3) := by
  refine ⟨fun i m H => m = x.cps.toList.length - i ∧ i ≤ x.cps.toList.length ∧ Pv i H, ⟨x.cps.toList.length, by simp, Nat.zero_le _, h0⟩, ?_⟩
  rintro i m H ⟨rfl, hi, p⟩
  by_cases hlt : i < x.cps.toList.length
  · have hlt' : i < x.cps.size := by simpa using hlt
    refine .inr ⟨hlt', Pv (i + 1), fun H' p' => ⟨x.cps.toList.length - (i + 1), by omega, rfl, hlt, p'⟩, fun v H' y => ?_⟩
    obtain ⟨e, c, hc, ev⟩ := y
    subst e ev
    exact hs i c _ (by simpa using hc) p
  · have e : i = x.cps.toList.length := by omega
    subst e
    refine .inl ⟨?_, hd H p⟩
    show x.cps.size ≤ x.cps.toList.length
    simp
/-- what the program asks of an integer, a number, a thread -/
def isIntD : PyData → Bool
  | .int _ => true
  | _ => false
def isNumD (many : Int) : PyData → Bool
  | .int i => decide (0 ≤ i ∧ i < many)
  | _ => false
def isThrD : PyData → Bool
  | .str z => decide (1 ≤ z.length ∧ z.length ≤ 8) && z.cps.toList.all fun c => decide (97 ≤ c ∧ c ≤ 122)
  | _ => false
def spInt (K : PySem.W.Frag) : Sp := fun vs H Q _ => ∃ (v : V) (d : PyData), vs = [v] ∧ Dp K H v d ∧ ∀ H', Same H H' → Q (.bl (isIntD d)) H'
def spNum (K : PySem.W.Frag) : Sp := fun vs H Q _ => ∃ (v : V) (d : PyData) (many : Int), vs = [v, .int many] ∧ Dp K H v d ∧ ∀ H', Same H H' → Q (.bl (isNumD many d)) H'
mutual
/-- short texts, short lists, all the way down -/
def tame : PyData → Bool
  | .list xs => decide (xs.length ≤ 1000) && tameAll xs
  | .tuple xs => decide (xs.length ≤ 1000) && tameAll xs
  | .str z => decide (z.length ≤ 1000)
  | _ => true
def tameAll : List PyData → Bool
  | [] => true
  | x :: r => tame x && tameAll r
end
theorem tame_mem : ∀ {ds : List PyData} {d : PyData}, tameAll ds = true → d ∈ ds → tame d = true
  | x :: r, d, h, e => by
    rw [tameAll, Bool.and_eq_true] at h
    rcases List.mem_cons.mp e with rfl | e
    · exact h.1
    · exact tame_mem h.2 e
theorem abc_mem {c : Nat} : c ∈ abc.cps.toList ↔ 97 ≤ c ∧ c ≤ 122 := by
  have : abc.cps.toList = List.range' 97 26 := by decide +kernel
  rw [this, List.mem_range'_1]
  omega
theorem sh_signs {z : Str} (h : PyData.canLay0 (.str z) = true) (f : Nat → Bool) : ∀ n, SeqAt.shaped (.list ((((z.cps.toList.take n).filter f).map fun c => (⟨#[c]⟩ : Str)).map PyData.str)) = true := fun n => by
  have hz : ∀ c ∈ z.cps.toList, c < 0x110000 := fun c hc => by
    have h' : z.cps.all (· < 0x110000) = true := h
    rw [Array.all_eq_true_iff_forall_mem] at h'
    exact of_decide_eq_true (h' c (by simpa using hc))
  have g : ∀ cs : List Nat, (∀ c ∈ cs, c < 0x110000) → PyData.canLayAll0 ((cs.map fun c => (⟨#[c]⟩ : Str)).map PyData.str) = true ∧ PyData.depthAll ((cs.map fun c => (⟨#[c]⟩ : Str)).map PyData.str) = 0 := by
    intro cs
    induction cs with
    | nil => exact fun _ => ⟨rfl, rfl⟩
    | cons c r ih =>
      intro hc
      obtain ⟨a, b⟩ := ih fun x hx => hc x (List.mem_cons_of_mem _ hx)
      constructor
      · rw [List.map_cons, List.map_cons, PyData.canLayAll0, a, Bool.and_true]
        show (#[c]).all (· < 0x110000) = true
        simp [hc c (List.mem_cons_self ..)]
      · rw [List.map_cons, List.map_cons, PyData.depthAll, b]
        rfl
  obtain ⟨a, b⟩ := g ((z.cps.toList.take n).filter f) fun c hc => hz c (List.mem_of_mem_take (List.mem_filter.mp hc).1)
  refine shaped_of (by simpa only [PyData.canLay0] using a) ?_
  simp only [PyData.depth, b]
  decide
theorem sz1000 : 1000 ≤ sizeLine := by decide
def spThr (K : PySem.W.Frag) : Sp := fun vs H Q _ => ∃ (v : V) (d : PyData), vs = [v] ∧ Dp K H v d ∧ tame d = true ∧ d.canLay0 = true ∧ ∀ H', Same H H' → Q (.bl (isThrD d)) H'
def spSpot (K : PySem.W.Frag) : Sp := fun vs H Q _ => ∃ (v : V) (d : PyData) (many : Int), vs = [.int many, v] ∧ Dp K H v d ∧ ∀ H', Same H H' → Q (.bl (isNumD many d)) H'
theorem isK_int {d : PyData} : (isK d "int" && !isK d "bool") = isIntD d := by
  cases d <;> rfl
theorem int_of {K : PySem.W.Frag} {H : Hp} {v : V} {d : PyData} (h : Dp K H v d) (e : isIntD d = true) : ∃ i, v = .int i ∧ d = .int i := by
  cases h with
  | int i => exact ⟨i, rfl, rfl⟩
  | _ => exact absurd e (by simp [isIntD])
theorem str_of {K : PySem.W.Frag} {H : Hp} {v : V} {d : PyData} (h : Dp K H v d) (e : isK d "str" = true) : ∃ z, v = .str z ∧ d = .str z := by
  cases h with
  | str z => exact ⟨z, rfl, rfl⟩
  | non => exact absurd e (by decide +kernel)
  | bl b => exact absurd (show isK (.bool true) "str" = true from e) (by decide +kernel)
  | int i => exact absurd (show isK (.int 0) "str" = true from e) (by decide +kernel)
  | lst _ _ => exact absurd (show isK (.list []) "str" = true from e) (by decide +kernel)
  | tup _ _ => exact absurd (show isK (.tuple []) "str" = true from e) (by decide +kernel)
section
variable {P : Program} {w : World} {K : PySem.W.Frag} {mg : Str → Option Value} {base : Heap}
abbrev sIsInt : Stmt := top 10
theorem scIsInt : FnScope ["value"] ["value"] (defScope sIsInt) := ⟨rfl, rfl, rfl, by decide +kernel, rfl, by decide +kernel, by decide +kernel⟩
theorem ok_IsInt {f : Addr} {fd : FuncData} (F : Fun K "is_integer" "is_integer" sIsInt f fd) (B : Bl mg) : FnOk P w K mg base CX0 1 f fd ["value"] (spInt K) := by
  refine F.ok scIsInt (fun vs H Q E h => ?_) (fun cdv A outer s H vs Q E hr h => ?_)
  · obtain ⟨v, d, rfl, _⟩ := h
    rfl
  · obtain ⟨v, d, rfl, h1, k⟩ := h
    refine ⟨_, pss_one (ps_ret (pe_and (pe_callB call_isi (by rfl) (B "isinstance" (by decide)) (by decide +kernel) (pa_cons (pv 0) (pa_cons (pe_bltn (v := .ty "int") rfl (B "int" (by decide)) (by decide +kernel) rfl) pa_nil))) (pe_one (pe_not (pe_callB call_isi (by rfl) (B "isinstance" (by decide)) (by decide +kernel) (pa_cons (pv 0) (pa_cons (pe_bltn (v := .ty "bool") rfl (B "bool" (by decide)) (by decide +kernel) rfl) pa_nil))))))), ?_⟩
    rw [← isK_int] at k
    refine ⟨_, rfl, _, _, _, _, _, rfl, .ty "int", dp_ty h1, kit_d h1 "int" (by decide), _, rfl, ?_⟩
    cases e : isK d "int" with
    | false =>
      refine LK.ifF rfl ?_
      have := k H (Same.refl H)
      rwa [e] at this
    | true =>
      refine LK.ifT rfl ⟨_, rfl, _, _, _, _, _, rfl, .ty "bool", dp_ty h1, kit_d h1 "bool" (by decide), _, rfl, ?_⟩
      have := k H (Same.refl H)
      rwa [e] at this
abbrev sIsNum : Stmt := top 11
theorem scIsNum : FnScope ["value", "many"] ["value", "many"] (defScope sIsNum) := ⟨rfl, rfl, rfl, by decide +kernel, rfl, by decide +kernel, by decide +kernel⟩
theorem ok_IsNum {f : Addr} {fd : FuncData} (F : Fun K "is_number" "is_number" sIsNum f fd) (B : Bl mg) {fi : Addr} {fdi : FuncData} (Gi : FnOk P w K mg base CX0 1 fi fdi ["value"] (spInt K)) (gi : mg "is_integer" = some (.ref fi)) (ki : PySem.W.keepIn K (.ref fi) = true) (bi : Binds K fdi ["value"] []) : FnOk P w K mg base CX0 2 f fd ["value", "many"] (spNum K) := by
  refine F.ok scIsNum (fun vs H Q E h => ?_) (fun cdv A outer s H vs Q E hr h => ?_)
  · obtain ⟨v, d, many, rfl, _⟩ := h
    rfl
  · obtain ⟨v, d, many, rfl, h1, k⟩ := h
    refine ⟨_, pss_one (ps_ret (pe_and (pe_call (E := E0) Gi (hr.mono (by decide)) rfl gi ki bi .nil pass0 (pa_cons (pv 0) pa_nil)) (pe_one (pe_chain op_le op_lt pe_int (pv 0) (pv 1))))), ?_⟩
    refine ⟨_, rfl, v, d, rfl, h1, fun H1 s1 => ⟨_, rfl, ?_⟩⟩
    cases e : isIntD d with
    | false =>
      refine LK.ifF rfl ?_
      have := k H1 s1
      have en : isNumD many d = false := by
        cases d <;> first | rfl | exact absurd e (by simp [isIntD])
      rwa [en] at this
    | true =>
      obtain ⟨i, rfl, rfl⟩ := int_of h1 e
      refine LK.ifT rfl ⟨_, rfl, _, _, rfl, rfl, _, rfl, ?_⟩
      have kk := k H1 s1
      rw [isNumD] at kk
      by_cases c0 : 0 ≤ i
      · refine LK.ifT (decide_eq_true c0) ⟨_, rfl, _, _, rfl, rfl, ?_⟩
        rwa [show decide (0 ≤ i ∧ i < many) = decide (i < many) by simp [c0]] at kk
      · refine LK.ifF (decide_eq_false c0) ?_
        rwa [show decide (0 ≤ i ∧ i < many) = false by simp [c0]] at kk
abbrev sIsThr : Stmt := top 12
theorem scIsThr : FnScope ["value", "sign"] ["value"] (defScope sIsThr) := ⟨rfl, rfl, rfl, by decide +kernel, rfl, by decide +kernel, by decide +kernel⟩
theorem ok_IsThr {f : Addr} {fd : FuncData} (F : Fun K "is_thread" "is_thread" sIsThr f fd) (B : Bl mg) (gL : ∃ t, mg "LONGEST_THREAD" = some (.int 8 t)) : FnOk P w K mg base CX0 1 f fd ["value"] (spThr K) := by
  refine F.ok scIsThr (fun vs H Q E h => ?_) (fun cdv A outer s H vs Q E hr h => ?_)
  · obtain ⟨v, d, rfl, _⟩ := h
    rfl
  · obtain ⟨v, d, rfl, h1, tm, lay, k⟩ := h
    obtain ⟨tk, gL⟩ := gL
    refine ⟨_, pss_cons (ps_if (PW.pt (pw_or (pt_not (pt_val (pe_callB call_isi (by rfl) (B "isinstance" (by decide)) (by decide +kernel) (pa_cons (pv 0) (pa_cons (pe_bltn (v := .ty "str") rfl (B "str" (by decide)) (by decide +kernel) rfl) pa_nil))))) (pw_or1 (pt_not (pt_chain op_le op_le pe_int (pe_callB call_len_str (by rfl) (B "len" (by decide)) (by decide +kernel) (pa_cons (pv 0) pa_nil)) (pe_glob (v := .int 8) rfl gL ⟨_, rfl⟩)))))) (pss_one (ps_ret pe_bl)) pss_nil)
      (pss_one (ps_ret (pe_callB (cr_all rfl) (by rfl) (B "all" (by decide)) (by decide +kernel) (pa_cons (pe_lc (own := [("sign", 1)]) (g := gName 1) (tt := tYes) rfl scIsThr.nd (pi_str (pv 0)) (blkOk_by (N := ["value", "sign"]) (sc := defScope sIsThr) (by decide +kernel)) (fun _ _ _ _ _ => pg_name (i := 1) scIsThr.nd rfl (Or.inl rfl)) (fun _ _ _ _ _ => pts_nil) (fun _ _ _ _ _ => pe_chain op_le_str op_le_str pe_str (pv 1) pe_str)) pa_nil)))), ?_⟩
    refine ⟨_, rfl, _, _, _, _, _, rfl, .ty "str", dp_ty h1, kit_d h1 "str" (by decide), _, rfl, ?_⟩
    have kk := k H (Same.refl H)
    cases e : isK d "str" with
    | false =>
      refine LK.ifT rfl (LK.ifT rfl ?_)
      have en : isThrD d = false := by
        cases d <;> first | rfl | exact absurd (show isK (.str "") "str" = false from e) (by decide +kernel)
      rwa [en] at kk
    | true =>
      obtain ⟨z, rfl, rfl⟩ := str_of h1 e
      have zl : z.length ≤ sizeLine := Nat.le_trans (of_decide_eq_true tm) sz1000
      refine LK.ifF rfl ⟨_, rfl, z, rfl, zl, _, _, rfl, rfl, _, rfl, ?_⟩
      have no : ¬ (1 ≤ z.length ∧ z.length ≤ 8) → isThrD (.str z) = false := fun n => by
        rw [isThrD, decide_eq_false n, Bool.false_and]
      by_cases c1 : (1 : Int) ≤ (z.length : Int)
      · refine LK.ifT (decide_eq_true c1) ⟨_, _, rfl, rfl, _, rfl, ?_⟩
        by_cases c2 : (z.length : Int) ≤ 8
        · refine LK.ifF (by simp [c2]) ⟨_, rfl, z, rfl, fun D nD => ?_⟩
          refine lc_str (x := z) (fun j H' => H' D = some (.lst ((((z.cps.toList.take j).map fun c => decide (97 ≤ c ∧ c ≤ 122)).map V.bl))) ∧ Same H H') ⟨upd_same, same_new nD⟩ (fun j c H' hj hh => ⟨rfl, ?_⟩) (fun H' hh => ?_)
          · obtain ⟨hD, s1⟩ := hh
            have fin : ∀ b : Bool, b = decide (97 ≤ c ∧ c ≤ 122) → ∃ acc, H' D = some (.lst acc) ∧ acc.length < sizeLine ∧ (L2.upd H' D (.lst (acc ++ [V.bl b])) D = some (.lst ((((z.cps.toList.take (j + 1)).map fun c => decide (97 ≤ c ∧ c ≤ 122)).map V.bl))) ∧ Same H (L2.upd H' D (.lst (acc ++ [V.bl b])))) := by
              rintro b rfl
              refine ⟨_, hD, ?_, ?_, fun b o e => ?_⟩
              · rw [List.length_map, List.length_map, List.length_take]
                have : z.cps.toList.length = z.length := by simp [Str.length]
                have : j < z.length := by
                  have := (List.getElem?_eq_some_iff.mp hj).1
                  omega
                exact Nat.lt_of_lt_of_le (by omega : _ < 100) (by decide)
              · rw [upd_same, List.take_succ, hj, List.map_append, List.map_append]
                rfl
              · rw [upd_ne (ne_of_none e nD)]
                exact s1 b o e
            have a1 : decide ([c] < ([97] : List Nat)) = decide (c < 97) := by simp [List.cons_lt_cons_iff]
            have a2 : decide (([122] : List Nat) < [c]) = decide (122 < c) := by simp [List.cons_lt_cons_iff]
            refine ⟨_, rfl, _, _, rfl, rfl, _, rfl, ?_⟩
            show if (!decide ([c] < ([97] : List Nat))) = true then _ else _
            rw [a1]
            by_cases k1 : c < 97
            · rw [decide_eq_true k1]
              exact LK.ifF rfl (fin false (by simp; omega))
            · rw [decide_eq_false k1]
              refine LK.ifT rfl ⟨_, _, rfl, rfl, fin _ ?_⟩
              show (!decide (([122] : List Nat) < [c])) = _
              rw [a2]
              rw [Bool.eq_iff_iff]
              simp
              omega
          · obtain ⟨hD, s1⟩ := hh
            refine ⟨D, _, rfl, SqL.of hD, ?_⟩
            have kk := k H' s1
            rw [isThrD, decide_eq_true ⟨by omega, by omega⟩, Bool.true_and] at kk
            rw [List.take_length, List.all_map]
            exact kk
        · refine LK.ifT (by simp [c2]) ?_
          rwa [no (by omega)] at kk
      · refine LK.ifF (decide_eq_false c1) ⟨_, rfl, LK.ifT rfl ?_⟩
        rwa [no (by omega)] at kk
end
end S8
/-! xs[1::-1]: the first two of a list, the second one ahead. -/
namespace MXo
open PySem PySem.Spec PyProof.Rows L2
section
variable {X : Cx}
def tRev1 (K : PySem.W.Frag) (te : TE) : TE := fun σ H Q => te σ H fun x H1 => ∃ a u v r, x = .ref a ∧ SqL K H1 a (u :: v :: r) ∧ ∀ p, H1 p = none → Q (.ref p) (upd H1 p (.lst [v, u]))
theorem pick1 (u v : Value) (r : List Value) : slicePick (u :: v :: r).toArray (some 1) none (some (-1)) = #[v, u] := by
  unfold slicePick
  have e : sliceBounds (some 1) none (some (-1)) (u :: v :: r).toArray.size = (1, -1, -1) := by
    unfold sliceBounds
    simp only [Option.getD_some, List.size_toArray, List.length_cons]
    have : max (-1) (min (1 : Int) (((r.length + 1 + 1 : Nat) : Int) - 1)) = 1 := by omega
    simp [this]
    omega
  rw [e]
  rfl
theorem pe_rev1 {e : Expr} {te : TE} {k k1 : Nat} {p0 p1 p2 p3 pos : Pos} (he : PE X e te) : PE X (.Subscript e (.Slice (some (.Constant (.int 1) k1 p0)) none (some (.UnaryOp .USub (.Constant (.int 1) k p1) p2)) p3) pos) (tRev1 X.K te) := by
  refine ⟨fun pins s σ H Q I h => ?_⟩
  refine Subscript_ (thn (he.run pins s σ H _ I h) fun v s1 ⟨x, H1, I1, r1, q1⟩ => ?_)
  obtain ⟨a, y0, y1, xr, ex, hx, q⟩ := q1
  subst ex
  cases r1
  have hlo : PO X (some (.Constant (.int 1) k1 p0)) (tPart (tC (.int 1))) := po_some pe_int
  have hst : PO X (some (.UnaryOp .USub (.Constant (.int 1) k p1) p2)) (tPart (tUn (rU fun i => .int (-i)) (tC (.int 1)))) := po_some (pe_un un_neg pe_int)
  refine wpAny_Slice (thn (hlo.run pins s1 σ H1 (fun o H2 => o = some 1 ∧ H2 = H1) I1 ⟨1, rfl, rfl, rfl⟩) fun vl s2 ⟨l, H2, I2, pl, el, e2⟩ => ?_)
  subst el e2
  refine thn (po_none.run pins s2 σ H2 (fun o H3 => o = none ∧ H3 = H2) I2 ⟨rfl, rfl⟩) fun vu s3 ⟨u, H3, I3, pu, eu, e3⟩ => ?_
  subst eu e3
  refine thn (hst.run pins s3 σ H3 (fun o H4 => o = some (-1) ∧ H4 = H3) I3 ⟨1, rfl, -1, rfl, rfl, rfl⟩) fun vs s4 ⟨o, H4, I4, ps, eo, e4⟩ => ?_
  subst eo e4
  have I5 : Inv X pins σ H4 { s4 with heap := s4.heap.push { cls := .type "slice", data := .fields #[vl, vu, vs] } } := I4.kept (t' := s4.toks) fun b ob q => Heap.get?_push_of_some _ q
  obtain ⟨its, r, ht, hz⟩ := I5.list hx
  have hlen := r.length
  show wpAny (model X.prog X.w) X.A (subscriptTail e (.Slice (some (.Constant (.int 1) k1 p0)) none (some (.UnaryOp .USub (.Constant (.int 1) k p1) p2)) p3) (.ref a) (.ref s4.heap.objs.size)) (EP X pins σ Q) X.xe { s4 with heap := s4.heap.push { cls := .type "slice", data := .fields #[vl, vu, vs] } }
  refine tail_any (ops := [.ref a, .ref s4.heap.objs.size]) ht.isList.typeIs (PySem.slot_list_getitem.lookup) ?_ (by with_unfolding_all rfl)
  refine wpAny_getItem_list_slice ht.isList (Heap.IsSliceOf.new _ vl vu vs) pl pu ps (by decide) ?_ (by rw [List.size_toArray]; omega)
  cases r with
  | cons r0 r' =>
    cases r' with
    | cons r1 r2 =>
      rw [pick1]
      refine ⟨.ref _, _, I5.laid (t' := s4.toks) (o := .lst [y1, y0]) (fun b ob q => Heap.get?_push_of_some _ q) (Nat.le_refl _) ?_, rfl, q _ (I5.hok.fresh (Nat.le_refl _))⟩
      exact ⟨by show 2 ≤ sizeLine; decide, _, 0, .cons r1 (.cons r0 .nil), Heap.get?_push_size _ rfl⟩
end
end MXo
/-! xs[::n], n a written number above 0. -/
namespace MXu
open PySem PySem.Spec PyProof.Rows L2
/-- every n-th -/
def everyN {α : Type} (n : Int) (xs : List α) : List α := (sliceRange 0 xs.length n).filterMap fun k => xs[k]?
theorem vals_at : ∀ {xs : List V} {us : List Value} (r : Vals xs us) (k : Nat), (xs[k]? = none ∧ us[k]? = none) ∨ ∃ x u, xs[k]? = some x ∧ us[k]? = some u ∧ RelV x u
  | _, _, .nil, k => .inl ⟨by simp, by simp⟩
  | _, _, .cons r t, 0 => .inr ⟨_, _, rfl, rfl, r⟩
  | _, _, .cons r t, k + 1 => by
    simpa using vals_at t k
theorem vals_pick {xs : List V} {us : List Value} (r : Vals xs us) : ∀ R : List Nat, Vals (R.filterMap fun k => xs[k]?) (R.filterMap fun k => us[k]?)
  | [] => .nil
  | k :: R => by
    rcases vals_at r k with ⟨h1, h2⟩ | ⟨x, u, h1, h2, h⟩
    · rw [List.filterMap_cons, List.filterMap_cons, h1, h2]
      exact vals_pick r R
    · rw [List.filterMap_cons, List.filterMap_cons, h1, h2]
      exact .cons h (vals_pick r R)
theorem pick_n {n : Nat} (pos : 0 < n) (us : List Value) : slicePick us.toArray none none (some (n : Int)) = ((sliceRange 0 us.length n).filterMap fun k => us[k]?).toArray := by
  have e : sliceBounds none none (some (n : Int)) us.toArray.size = (0, (us.length : Int), (n : Int)) := by
    unfold sliceBounds
    simp only [Option.getD_some, List.size_toArray]
    rw [if_pos (by omega), if_pos (by omega)]
  unfold slicePick
  rw [e]
  simp
section
variable {X : Cx}
def tEach (K : PySem.W.Frag) (n : Nat) (te : TE) : TE := fun σ H Q => te σ H fun x H1 => ∃ a xs, x = .ref a ∧ SqL K H1 a xs ∧ (everyN (n : Int) xs).length ≤ sizeLine ∧ ∀ p, H1 p = none → Q (.ref p) (upd H1 p (.lst (everyN (n : Int) xs)))
theorem pe_each {e : Expr} {te : TE} {k n : Nat} {p1 p3 pos : Pos} (pos_ : 0 < n) (he : PE X e te) : PE X (.Subscript e (.Slice none none (some (.Constant (.int n) k p1)) p3) pos) (tEach X.K n te) := by
  refine ⟨fun pins s σ H Q I h => ?_⟩
  refine Subscript_ (thn (he.run pins s σ H _ I h) fun v s1 ⟨x, H1, I1, r1, q1⟩ => ?_)
  obtain ⟨a, xs, ex, hx, room, q⟩ := q1
  subst ex
  cases r1
  have hst : PO X (some (.Constant (.int n) k p1)) (tPart (tC (.int n))) := po_some pe_int
  refine wpAny_Slice (thn (po_none.run pins s1 σ H1 (fun o H2 => o = none ∧ H2 = H1) I1 ⟨rfl, rfl⟩) fun vl s2 ⟨l, H2, I2, pl, el, e2⟩ => ?_)
  subst el e2
  refine thn (po_none.run pins s2 σ H2 (fun o H3 => o = none ∧ H3 = H2) I2 ⟨rfl, rfl⟩) fun vu s3 ⟨u, H3, I3, pu, eu, e3⟩ => ?_
  subst eu e3
  refine thn (hst.run pins s3 σ H3 (fun o H4 => o = some (n : Int) ∧ H4 = H3) I3 ⟨n, rfl, rfl, rfl⟩) fun vs s4 ⟨o, H4, I4, ps, eo, e4⟩ => ?_
  subst eo e4
  have I5 : Inv X pins σ H4 { s4 with heap := s4.heap.push { cls := .type "slice", data := .fields #[vl, vu, vs] } } := I4.kept (t' := s4.toks) fun b ob q => Heap.get?_push_of_some _ q
  obtain ⟨its, r, ht, hz⟩ := I5.list hx
  have hlen := r.length
  show wpAny (model X.prog X.w) X.A (subscriptTail e (.Slice none none (some (.Constant (.int n) k p1)) p3) (.ref a) (.ref s4.heap.objs.size)) (EP X pins σ Q) X.xe { s4 with heap := s4.heap.push { cls := .type "slice", data := .fields #[vl, vu, vs] } }
  refine tail_any (ops := [.ref a, .ref s4.heap.objs.size]) ht.isList.typeIs (PySem.slot_list_getitem.lookup) ?_ (by with_unfolding_all rfl)
  refine wpAny_getItem_list_slice ht.isList (Heap.IsSliceOf.new _ vl vu vs) pl pu ps (by intro z; have := Option.some.inj z; omega) ?_ (by rw [List.size_toArray]; omega)
  rw [pick_n pos_, ← hlen]
  refine ⟨.ref _, _, I5.laid (t' := s4.toks) (o := .lst (everyN (n : Int) xs)) (fun b ob q => Heap.get?_push_of_some _ q) (Nat.le_refl _) ?_, rfl, q _ (I5.hok.fresh (Nat.le_refl _))⟩
  exact ⟨room, _, 0, vals_pick r _, Heap.get?_push_size _ rfl⟩
end
end MXu
/-! f(k = v, ..): a def called by keywords alone. -/
namespace MXq
open PySem PySem.Spec PyProof.Rows L2
section
variable {X : Cx} {CX : CXT} {k : Nat} {f : Addr} {fd : FuncData} {ps ks : List Str} {sp : Sp} {E : XK} {x : Str} {p pos : Pos} {kws : List Keyword} {tk : TA}
variable {g : List Value → List Value → List Value} {gV : List V → List V → List V}
theorem pe_callK0 (F : FnOk X.prog X.w X.K X.mg X.base CX k f fd ps sp) (hr : Room k X.A) (hg : Gl X x) (hm : X.mg x = some (.ref f)) (hk : PySem.W.keepIn X.K (.ref f) = true) (hb : KBinds X.K fd ps ks g gV) (hx : Passes CX X E)
    (hkw : PK X kws tk) (hall : (backToKw pos (keywordEach kws X.env)).all (·.1.isSome) = true := by rfl) (hks : (backToKw pos (keywordEach kws X.env)).filterMap (·.1) = ks := by rfl)
    (hdb : (x == ("__debug__" : Str)) = false := by decide)
    (hpl : ((backTo pos (starEach [] X.env)).any (·.1) || (backToKw pos (keywordEach kws X.env)).any (·.1.isNone)) = false := by rfl) :
    PE X (.Call (.Name x p) [] kws pos) (tCallK sp gV E tNil tk) := by
  refine ⟨fun pins s σ H Q I h => ?_⟩
  refine wpAny_Call_Name_kw (ld_glob I hg hm ?_ hdb)
  refine PySem.W.callWith_KW0 (h₀ := X.base) I.ok.mod.kin hk hall ?_ hpl
  refine thn (hkw.run pos pins s σ H _ I h) fun ws s2 ⟨zs, H2, I2, rz, q2⟩ => ⟨I2.kIn, ?_⟩
  rw [hks]
  exact run_fnk F hr hb hx I2 .nil rz q2
end
end MXq
/-! A comprehension over enumerate of a list that stands still. -/
namespace MXv
open PySem PySem.Spec PyProof.Rows L2
theorem lc_enum {K : PySem.W.Frag} {a : Addr} {xs : List V} {g : TG} {tt : TT} {te : TE} {vs : List Nat} {σ : L2.St} {H1 : Hp} {D : Addr} {Qd : Hp → Prop} (Pv : Nat → Hp → Prop) (h0 : Pv 0 (upd H1 D (.lst []))) (hq : ∀ i H, Pv i H → SqL K H a xs)
    (hs : ∀ (i : Nat) (x : V) (T : Addr) (H : Hp), xs[i]? = some x → Pv i H → H T = none → g (.ref T) (wipe σ vs) (upd H T (.tup [.int (i : Nat), x])) fun σ2 H2 => wipe σ2 vs = wipe σ vs ∧ tt σ2 H2 fun b H3 =>
      if b = true then te σ2 H3 fun y H4 => ∃ acc, H4 D = some (.lst acc) ∧ acc.length < sizeLine ∧ Pv (i + 1) (upd H4 D (.lst (acc ++ [y]))) else Pv (i + 1) H3) (hd : ∀ H, Pv xs.length H → Qd H) :
    ∃ W : Nat → Nat → Hp → Prop, (∃ m, W 0 m (upd H1 D (.lst []))) ∧ ∀ i m H, W i m H →
      ((Ite K a).stop i H ∧ Qd H) ∨ ((Ite K a).go i H ∧ ∃ Nx : Hp → Prop, (∀ H', Nx H' → ∃ m', m' < m ∧ W (i + 1) m' H') ∧ ∀ v H', (Ite K a).yld i H v H' → g v (wipe σ vs) H' fun σ2 H2 => wipe σ2 vs = wipe σ vs ∧ tt σ2 H2 fun b H3 =>
        if b = true then te σ2 H3 fun y H4 => ∃ acc, H4 D = some (.lst acc) ∧ acc.length < sizeLine ∧ Nx (upd H4 D (.lst (acc ++ [y]))) else Nx H3) := by
  refine ⟨fun i m H => m = xs.length - i ∧ i ≤ xs.length ∧ Pv i H, ⟨xs.length, rfl, Nat.zero_le _, h0⟩, ?_⟩
  rintro i m H ⟨rfl, hi, p⟩
  have qx := hq i H p
  by_cases hlt : i < xs.length
  · have hx : xs[i]? = some xs[i] := List.getElem?_eq_getElem hlt
    refine .inr ⟨⟨xs, _, qx, hx⟩, Pv (i + 1), fun H' p' => ⟨xs.length - (i + 1), by omega, rfl, hlt, p'⟩, fun v H' y => ?_⟩
    obtain ⟨T, x', rfl, hT, rfl, f1⟩ := y
    exact hs i x' T H (f1 xs qx) p hT
  · have e : i = xs.length := by omega
    subst e
    exact .inl ⟨⟨xs, qx, Nat.le_refl _⟩, hd H p⟩
end MXv
/-! Comprehensions that filter and map, by two continuations. -/
namespace MY
open PySem PySem.Spec PyProof.Rows L2 LK
theorem ne_none {H : Hp} {a p : Addr} {o : HO} (e : H a = some o) (n : H p = none) : a ≠ p := fun q => by
  subst q
  rw [e] at n
  cases n
theorem same_newU {H H' : Hp} {p : Addr} {o : HO} (s : Same H H') (n : H p = none) : Same H (upd H' p o) := fun b u e => by
  rw [upd_ne (ne_none e n)]
  exact s b u e
/-- what stays when the creel alone is written -/
theorem bt_newU {H H' : Hp} {p c : Addr} {o : HO} (s : Bt c H H') (n : H p = none) : Bt c H (upd H' p o) := fun b u ne e => by
  rw [upd_ne (ne_none e n)]
  exact s b u ne e
section
variable {α : Type}
theorem filt_some {ns : List α} {f : α → Bool} {i : Nat} {x : α} (h : ns[i]? = some x) : (ns.take (i + 1)).filter f = if f x = true then (ns.take i).filter f ++ [x] else (ns.take i).filter f := by
  rw [List.take_add_one, h, Option.toList_some, List.filter_append, List.filter_cons, List.filter_nil]
  split <;> simp
theorem filt_le (ns : List α) (f : α → Bool) (i : Nat) : ((ns.take i).filter f).length ≤ ns.length := Nat.le_trans (List.length_filter_le _ _) (List.length_take_le' _ _)
/-- the step of all of them -/
theorem step_ok {ns : List α} {f : α → Bool} {e : α → V} {H : Hp} {D : Addr} {i : Nat} {x : α} (nD : H D = none) (ln : ns.length ≤ 1000000) (hx : ns[i]? = some x) {g : TG} {tt : TT} {te : TE} {σ σ' : L2.St} {v : V} {vs : List Nat} {H1 : Hp}
    (hp : Same H H1 ∧ H1 D = some (.lst (((ns.take i).filter f).map e)))
    (hs : ∀ (yes : V → Hp → Prop) (no : Hp → Prop), (f x = true → ∀ H2, Same H1 H2 → yes (e x) H2) → (f x = false → ∀ H2, Same H1 H2 → no H2) → g v σ' H1 fun σ2 H2 => wipe σ2 vs = wipe σ vs ∧ tt σ2 H2 fun b H3 => if b = true then te σ2 H3 yes else no H3) :
    g v σ' H1 fun σ2 H2 => wipe σ2 vs = wipe σ vs ∧ tt σ2 H2 fun b H3 => if b = true then te σ2 H3 fun y H4 => ∃ acc, H4 D = some (.lst acc) ∧ acc.length < sizeLine ∧ (Same H (upd H4 D (.lst (acc ++ [y]))) ∧ upd H4 D (.lst (acc ++ [y])) D = some (.lst (((ns.take (i + 1)).filter f).map e))) else Same H H3 ∧ H3 D = some (.lst (((ns.take (i + 1)).filter f).map e)) := by
  refine hs _ _ (fun hf H2 s2 => ⟨_, s2 _ _ hp.2, ?_, same_newU (hp.1.trans s2) nD, ?_⟩) (fun hf H2 s2 => ⟨hp.1.trans s2, ?_⟩)
  · rw [List.length_map]
    have := filt_le ns f i
    have : sizeLine = 16777216 := sizeLine_eq
    omega
  · rw [upd_same, filt_some hx, if_pos hf, List.map_append]
    rfl
  · rw [s2 _ _ hp.2, filt_some hx, if_neg (by rw [hf]; decide)]
/-- over a list that stands still -/
theorem lcf_list {K : PySem.W.Frag} {a : Addr} {ns : List α} {c : α → V} {g : TG} {tt : TT} {te : TE} {vs : List Nat} {σ : L2.St} {H : Hp} {D : Addr} {Qd : Hp → Prop} (f : α → Bool) (e : α → V) (ha : SqL K H a (ns.map c)) (nD : H D = none) (ln : ns.length ≤ 1000000)
    (hs : ∀ (i : Nat) (x : α) (H1 : Hp) (yes : V → Hp → Prop) (no : Hp → Prop), ns[i]? = some x → Same H H1 → (f x = true → ∀ H2, Same H1 H2 → yes (e x) H2) → (f x = false → ∀ H2, Same H1 H2 → no H2) → g (c x) (wipe σ vs) H1 fun σ2 H2 => wipe σ2 vs = wipe σ vs ∧ tt σ2 H2 fun b H3 => if b = true then te σ2 H3 yes else no H3)
    (hd : ∀ H', Same H H' → H' D = some (.lst ((ns.filter f).map e)) → Qd H') :
    ∃ W : Nat → Nat → Hp → Prop, (∃ m, W 0 m (upd H D (.lst []))) ∧ ∀ i m H, W i m H →
      ((Itl K a).stop i H ∧ Qd H) ∨ ((Itl K a).go i H ∧ ∃ Nx : Hp → Prop, (∀ H', Nx H' → ∃ m', m' < m ∧ W (i + 1) m' H') ∧ ∀ x H', (Itl K a).yld i H x H' → g x (wipe σ vs) H' fun σ2 H2 => wipe σ2 vs = wipe σ vs ∧ tt σ2 H2 fun b H3 =>
        if b = true then te σ2 H3 fun y H4 => ∃ acc, H4 D = some (.lst acc) ∧ acc.length < sizeLine ∧ Nx (upd H4 D (.lst (acc ++ [y]))) else Nx H3) := by
  refine lc_list (K := K) (a := a) (xs := ns.map c) (fun i H' => Same H H' ∧ H' D = some (.lst (((ns.take i).filter f).map e))) ⟨same_new nD, upd_same⟩ (fun i H' _ hp => hp.1.seq ha) (fun i y H' hy hp => ?_) (fun H' hp => ?_)
  · rw [List.getElem?_map] at hy
    obtain ⟨x, hx, rfl⟩ := Option.map_eq_some_iff.mp hy
    exact step_ok nD ln hx hp fun yes no y n => hs i x H' yes no hx hp.1 y n
  · have h2 := hp.2
    rw [List.length_map, List.take_length] at h2
    exact hd H' hp.1 h2
/-- over a tuple -/
theorem lcf_tup {K : PySem.W.Frag} {a : Addr} {ns : List α} {c : α → V} {g : TG} {tt : TT} {te : TE} {vs : List Nat} {σ : L2.St} {H : Hp} {D : Addr} {Qd : Hp → Prop} (f : α → Bool) (e : α → V) (ha : SqT K H a (ns.map c)) (nD : H D = none) (ln : ns.length ≤ 1000000)
    (hs : ∀ (i : Nat) (x : α) (H1 : Hp) (yes : V → Hp → Prop) (no : Hp → Prop), ns[i]? = some x → Same H H1 → (f x = true → ∀ H2, Same H1 H2 → yes (e x) H2) → (f x = false → ∀ H2, Same H1 H2 → no H2) → g (c x) (wipe σ vs) H1 fun σ2 H2 => wipe σ2 vs = wipe σ vs ∧ tt σ2 H2 fun b H3 => if b = true then te σ2 H3 yes else no H3)
    (hd : ∀ H', Same H H' → H' D = some (.lst ((ns.filter f).map e)) → Qd H') :
    ∃ W : Nat → Nat → Hp → Prop, (∃ m, W 0 m (upd H D (.lst []))) ∧ ∀ i m H, W i m H →
      ((Itt K a).stop i H ∧ Qd H) ∨ ((Itt K a).go i H ∧ ∃ Nx : Hp → Prop, (∀ H', Nx H' → ∃ m', m' < m ∧ W (i + 1) m' H') ∧ ∀ x H', (Itt K a).yld i H x H' → g x (wipe σ vs) H' fun σ2 H2 => wipe σ2 vs = wipe σ vs ∧ tt σ2 H2 fun b H3 =>
        if b = true then te σ2 H3 fun y H4 => ∃ acc, H4 D = some (.lst acc) ∧ acc.length < sizeLine ∧ Nx (upd H4 D (.lst (acc ++ [y]))) else Nx H3) := by
  refine lc_tup (K := K) (a := a) (xs := ns.map c) (fun i H' => Same H H' ∧ H' D = some (.lst (((ns.take i).filter f).map e))) ⟨same_new nD, upd_same⟩ (fun i H' _ hp => same_tup hp.1 ha) (fun i y H' hy hp => ?_) (fun H' hp => ?_)
  · rw [List.getElem?_map] at hy
    obtain ⟨x, hx, rfl⟩ := Option.map_eq_some_iff.mp hy
    exact step_ok nD ln hx hp fun yes no y n => hs i x H' yes no hx hp.1 y n
  · have h2 := hp.2
    rw [List.length_map, List.take_length] at h2
    exact hd H' hp.1 h2
end
/-- over range(n) -/
theorem lcf_range {n : Nat} {g : TG} {tt : TT} {te : TE} {vs : List Nat} {σ : L2.St} {H : Hp} {D : Addr} {Qd : Hp → Prop} (f : Nat → Bool) (e : Nat → V) (nD : H D = none) (ln : n ≤ 1000000)
    (hs : ∀ (i : Nat) (H1 : Hp) (yes : V → Hp → Prop) (no : Hp → Prop), i < n → Same H H1 → (f i = true → ∀ H2, Same H1 H2 → yes (e i) H2) → (f i = false → ∀ H2, Same H1 H2 → no H2) → g (.int (i : Int)) (wipe σ vs) H1 fun σ2 H2 => wipe σ2 vs = wipe σ vs ∧ tt σ2 H2 fun b H3 => if b = true then te σ2 H3 yes else no H3)
    (hd : ∀ H', Same H H' → H' D = some (.lst (((List.range n).filter f).map e)) → Qd H') :
    ∃ W : Nat → Nat → Hp → Prop, (∃ m, W 0 m (upd H D (.lst []))) ∧ ∀ i m H, W i m H →
      ((Itr 0 n).stop i H ∧ Qd H) ∨ ((Itr 0 n).go i H ∧ ∃ Nx : Hp → Prop, (∀ H', Nx H' → ∃ m', m' < m ∧ W (i + 1) m' H') ∧ ∀ x H', (Itr 0 n).yld i H x H' → g x (wipe σ vs) H' fun σ2 H2 => wipe σ2 vs = wipe σ vs ∧ tt σ2 H2 fun b H3 =>
        if b = true then te σ2 H3 fun y H4 => ∃ acc, H4 D = some (.lst acc) ∧ acc.length < sizeLine ∧ Nx (upd H4 D (.lst (acc ++ [y]))) else Nx H3) := by
  have tk : ∀ i, i ≤ n → (List.range n).take i = List.range i := fun i h => by rw [List.take_range, Nat.min_eq_left h]
  refine lc_range (lo := 0) (n := n) (fun i H' => Same H H' ∧ H' D = some (.lst ((((List.range n).take i).filter f).map e))) ⟨same_new nD, upd_same⟩ (fun i H' hi hp => ?_) (fun H' hp => ?_)
  · rw [Int.zero_add]
    exact step_ok (ns := List.range n) nD (by rw [List.length_range]; exact ln) (List.getElem?_range hi) hp fun yes no y n => hs i H' yes no hi hp.1 y n
  · have h2 := hp.2
    rw [tk n (Nat.le_refl _)] at h2
    exact hd H' hp.1 h2
end MY
/-! Calls in a block, the row said by a letter. -/
namespace MYd
open PySem PySem.Spec PyProof.Rows L2 LK
def rListOf (K : PySem.W.Frag) : List V → Hp → VK → Prop := fun xs H Q => ∃ p ys, xs = [V.ref p] ∧ (SqL K H p ys ∨ SqT K H p ys) ∧ ∀ l, H l = none → Q (.ref l) (upd H l (.lst ys))
theorem listK {X : Cx} {K : PySem.W.Frag} (e : X.K = K := by rfl) : CallR X (.type "list") (rListOf K) := by
  subst e
  exact call_list_of
theorem pe_revK {X : Cx} {K : PySem.W.Frag} {e : Expr} {te : TE} {k : Nat} {p1 p2 p3 pos : Pos} (he : PE X e te) (e0 : X.K = K := by rfl) : PE X (.Subscript e (.Slice none none (some (.UnaryOp .USub (.Constant (.int 1) k p1) p2)) p3) pos) (tRevL K te) := by
  subst e0
  exact pe_revL he
theorem sl_listK {X : Cx} {K : PySem.W.Frag} (e0 : X.K = K := by rfl) : SlR X (rSlL K) := by
  subst e0
  exact sl_list
theorem hu65 {A : Around} {k : Nat} (hr : Room k A) : A.units + 65 < cLine := by
  have := hr.un
  omega
end MYd
/-! x not in range(..). -/
namespace MXt
open PySem PySem.Spec PyProof.Rows L2
section
variable {X : Cx} {a b : Expr} {ta : TE} {tr : L2.St → Hp → (Int → Int → Hp → Prop) → Prop} {pos : Pos}
def tNinRg (ta : TE) (tr : L2.St → Hp → (Int → Int → Hp → Prop) → Prop) : TE := fun σ H Q => ta σ H fun x H1 => ∃ k, x = V.int k ∧ tr σ H1 fun lo hi H2 => Q (.bl (!decide (lo ≤ k ∧ k < hi))) H2
theorem pe_ninRg (ha : PE X a ta) (hb : PRg X b tr) (hm : behindInMarks .NotIn b = false := by rfl) : PE X (.Compare a [.NotIn] [b] pos) (tNinRg ta tr) := by
  refine ⟨fun pins s σ H Q I h => ?_⟩
  refine wpAny_Compare1 (thn (ha.run pins s σ H _ I h) fun v s1 ⟨x, H1, I1, r1, q1⟩ => ?_) hm
  obtain ⟨k, rfl, q1⟩ := q1
  obtain ⟨tk, rfl⟩ := r1
  refine thn (hb pins s1 σ H1 _ I1 q1) fun u s2 q2 => ?_
  obtain ⟨r, lo, hi, t1, t2, t3, H2, rfl, ho, I2, q⟩ := q2
  exact NotIn_slot ⟨_, ho, rfl⟩ F.slot_range_contains (call_meets F.slot_range_contains ⟨_, ho, rfl⟩ F.entry_range_contains (F.args_range_contains_2 (.ref r) (.int k tk)) (q_contains r lo hi k t1 t2 t3 tk) ⟨ho, wpAny_truthy_bool ⟨.bl _, H2, I2, rfl, by rw [place1]; exact q⟩⟩)
theorem pt_ninRg (ha : PE X a ta) (hb : PRg X b tr) (hm : behindInMarks .NotIn b = false := by rfl) : PT X (.Compare a [.NotIn] [b] pos) (tTest (tNinRg ta tr)) := by
  refine ⟨fun pins s σ H Q I h => ?_⟩
  refine wpAny_isTrue_Compare1 (thn (ha.run pins s σ H _ I h) fun v s1 ⟨x, H1, I1, r1, q1⟩ => ?_) hm
  obtain ⟨k, rfl, q1⟩ := q1
  obtain ⟨tk, rfl⟩ := r1
  refine thn (hb pins s1 σ H1 _ I1 q1) fun u s2 q2 => ?_
  obtain ⟨r, lo, hi, t1, t2, t3, H2, rfl, ho, I2, b', e, q⟩ := q2
  cases e
  exact NotIn_slot ⟨_, ho, rfl⟩ F.slot_range_contains (call_meets F.slot_range_contains ⟨_, ho, rfl⟩ F.entry_range_contains (F.args_range_contains_2 (.ref r) (.int k tk)) (q_contains r lo hi k t1 t2 t3 tk) ⟨ho, wpAny_truthy_bool (wpAny_truthy_bool ⟨H2, I2, by rw [place1]; exact q⟩)⟩)
theorem lenK {K : PySem.W.Frag} (e : X.K = K := by rfl) : CallR X (.builtin "len") (fun xs H Q => ∃ p ys, xs = [V.ref p] ∧ (SqL K H p ys ∨ SqT K H p ys) ∧ Q (V.int ys.length) H) := e ▸ call_len_seq
end
end MXt
/-! Small facts over any row. -/
namespace MZ
open PySem PySem.Spec PyProof.Rows L2 LK MY
theorem gone {H H1 : Hp} {p : Addr} (s : Same H H1) (n : H1 p = none) : H p = none := by
  cases e : H p with
  | none => rfl
  | some o => rw [s _ _ e] at n; cases n
theorem cut_drop {xs : List V} {i : Nat} : cutV xs (some (i : Int)) none = xs.drop i := by
  unfold cutV
  rw [HT.sIx_nat, HT.sIx_none]
  rcases Nat.le_total i xs.length with h | h
  · rw [Nat.min_eq_left h, List.take_of_length_le (by rw [List.length_drop]; omega)]
  · rw [Nat.min_eq_right h, List.drop_eq_nil_of_le (Nat.le_refl _), List.drop_eq_nil_of_le h, List.take_nil]
theorem cut_to {xs : List V} {i : Nat} : cutV xs none (some (i : Int)) = xs.take i := by
  unfold cutV
  rw [HT.sIx_nat, HT.sIx_none]
  rcases Nat.le_total i xs.length with h | h
  · rw [Nat.min_eq_left h]
    rfl
  · rw [Nat.min_eq_right h, List.take_of_length_le h, Nat.sub_zero, List.drop_zero, List.take_of_length_le (Nat.le_refl _)]
theorem cut_mid {xs : List V} {i n : Nat} (h : i ≤ xs.length) : cutV xs (some (i : Int)) (some ((i : Int) + (n : Int))) = (xs.drop i).take n := by
  unfold cutV
  rw [show (i : Int) + (n : Int) = ((i + n : Nat) : Int) by omega, HT.sIx_nat, HT.sIx_nat, Nat.min_eq_left h]
  refine List.take_eq_take_iff.mpr ?_
  rw [List.length_drop]
  omega
theorem stJ {t : TS} {D : Ends} {σ : L2.St} {H : Hp} (R : L2.St → Hp → Prop) (h : ∀ D' : Ends, (∀ σ' H', R σ' H' → D'.nx σ' H') → t D' σ H) (q : ∀ σ' H', R σ' H' → D.nx σ' H') : t D σ H := h D q
theorem exK {te : TE} {σ : L2.St} {H : Hp} {Q : VK} (R : V → Hp → Prop) (h : ∀ Q' : VK, (∀ x H', R x H' → Q' x H') → te σ H Q') (q : ∀ x H', R x H' → Q x H') : te σ H Q := h Q q
theorem asgI {te : TE} {g : TG} {R : TS} {D : Ends} {σ : L2.St} {H : Hp} (h : te σ H fun x H1 => g x σ H1 (R D)) : tSeq (tAsg te g) R D σ H := h
theorem cr_ne {H : Hp} {c p : Addr} {B : Nat} (h : CR H c B) (n : H p = none) : p ≠ c := fun e => by
  subst e
  obtain ⟨_, _, _, e, _⟩ := h
  rw [e] at n
  cases n
theorem pi_listK {X : Cx} {K : PySem.W.Frag} {tg l : Expr} {tl : TE} (hl : PE X l tl) (e : X.K = K := by rfl) : PI X tg l (iList K tl) := e ▸ pi_list hl
theorem pi_tupK {X : Cx} {K : PySem.W.Frag} {tg l : Expr} {tl : TE} (hl : PE X l tl) (e : X.K = K := by rfl) : PI X tg l (iTup K tl) := e ▸ pi_tup hl
abbrev nI (ks : List Nat) : List V := ks.map fun k : Nat => V.int (k : Int)
theorem nI_ints (ks : List Nat) : nI ks = (ks.map fun k : Nat => (k : Int)).map V.int := by
  unfold nI
  rw [List.map_map]
  rfl
theorem nI_app (a b : List Nat) : nI (a ++ b) = nI a ++ nI b := List.map_append
theorem nI_take {ks : List Nat} {n : Nat} : (nI ks).take n = nI (ks.take n) := by
  unfold nI
  rw [List.map_take]
theorem nI_drop {ks : List Nat} {n : Nat} : (nI ks).drop n = nI (ks.drop n) := by
  unfold nI
  rw [List.map_drop]
theorem dp_nI {K : PySem.W.Frag} {H : Hp} : ∀ p : List Nat, DpAll K H (nI p) (p.map fun k : Nat => PyData.int (k : Int))
  | [] => .nil
  | k :: p => .cons (.int _) (dp_nI p)
theorem dp_ints {K : PySem.W.Frag} {H : Hp} : ∀ p : List Int, DpAll K H (p.map V.int) (p.map PyData.int)
  | [] => .nil
  | k :: p => .cons (.int _) (dp_ints p)
/-- what is no list stays -/
def Tl (H H' : Hp) : Prop := ∀ b o, (∀ xs, o ≠ .lst xs) → H b = some o → H' b = some o
theorem Tl.bt {c : Addr} {H H' : Hp} {B : Nat} (h : CR H c B) (b : Bt c H H') : Tl H H' := fun x o no e => b x o (h.ne e no) e
theorem Tl.same {H H' : Hp} (s : Same H H') : Tl H H' := fun x o _ e => s x o e
theorem Tl.own {H : Hp} {p : Addr} {xs : List V} {o : HO} (h : H p = some (.lst xs)) : Tl H (upd H p o) := fun x u no e => by
  rw [upd_ne (fun q => by rw [q, h] at e; cases e; exact no xs rfl)]
  exact e
theorem Tl.trans {H H1 H2 : Hp} (a : Tl H H1) (b : Tl H1 H2) : Tl H H2 := fun x o n e => b x o n (a x o n e)
theorem sqT_tl {K : PySem.W.Frag} {H H' : Hp} {a : Addr} {xs : List V} (e : Tl H H') (h : SqT K H a xs) : SqT K H' a xs := by
  rcases h with (h | ⟨o, h⟩) | h
  · exact .inl (.inl (e _ _ (fun xs z => by cases z) h))
  · exact .inl (.inr ⟨o, e _ _ (fun xs z => by cases z) h⟩)
  · exact .inr h
mutual
/-- no list within -/
def noL : PyData → Bool
  | .list _ | .dict _ => false
  | .tuple xs => noLs xs
  | _ => true
def noLs : List PyData → Bool
  | [] => true
  | x :: r => noL x && noLs r
end
mutual
theorem dp_tl {K : PySem.W.Frag} {H H' : Hp} (e : Tl H H') : ∀ {v : V} {d : PyData}, noL d = true → Dp K H v d → Dp K H' v d
  | _, _, _, .non => .non
  | _, _, _, .bl b => .bl b
  | _, _, _, .int i => .int i
  | _, _, _, .str x => .str x
  | _, _, n, .lst s a => Bool.noConfusion n
  | _, _, n, .tup s a => .tup (sqT_tl e s) (dps_tl e n a)
theorem dps_tl {K : PySem.W.Frag} {H H' : Hp} (e : Tl H H') : ∀ {vs : List V} {ds : List PyData}, noLs ds = true → DpAll K H vs ds → DpAll K H' vs ds
  | _, _, _, .nil => .nil
  | _, _, n, .cons a r => by
    rw [noLs, Bool.and_eq_true] at n
    exact .cons (dp_tl e n.1 a) (dps_tl e n.2 r)
end
theorem noLs_iff {ds : List PyData} : noLs ds = true ↔ ∀ d ∈ ds, noL d = true := by
  induction ds with
  | nil => exact ⟨fun _ d m => absurd m List.not_mem_nil, fun _ => rfl⟩
  | cons a r ih =>
    rw [noLs, Bool.and_eq_true, ih]
    exact ⟨fun h d m => (List.mem_cons.mp m).elim (fun e => e ▸ h.1) (h.2 d), fun h => ⟨h a List.mem_cons_self, fun d m => h d (List.mem_cons_of_mem _ m)⟩⟩
theorem dps_get {K : PySem.W.Frag} {H : Hp} : ∀ {vs : List V} {ds : List PyData} {i : Nat} {v : V} {d : PyData}, DpAll K H vs ds → vs[i]? = some v → ds[i]? = some d → Dp K H v d
  | _, _, _, _, _, .nil, h, _ => by simp at h
  | _, _, 0, _, _, .cons a r, h, e => by
    cases h
    cases e
    exact a
  | _, _, i + 1, _, _, .cons a r, h, e => dps_get (i := i) r (by simpa using h) (by simpa using e)
theorem dps_take {K : PySem.W.Frag} {H : Hp} : ∀ {vs : List V} {ds : List PyData} (n : Nat), DpAll K H vs ds → DpAll K H (vs.take n) (ds.take n)
  | _, _, 0, _ => by simpa using .nil
  | _, _, n + 1, .nil => .nil
  | _, _, n + 1, .cons a r => .cons a (dps_take n r)
theorem dps_drop {K : PySem.W.Frag} {H : Hp} : ∀ {vs : List V} {ds : List PyData} (n : Nat), DpAll K H vs ds → DpAll K H (vs.drop n) (ds.drop n)
  | _, _, 0, h => h
  | _, _, n + 1, .nil => .nil
  | _, _, n + 1, .cons _ r => dps_drop n r
theorem ints_back {K : PySem.W.Frag} {H : Hp} : ∀ {vs : List V} {ns : List Int}, DpAll K H vs (ns.map PyData.int) → vs = ns.map V.int
  | _, [], .nil => rfl
  | _, n :: r, .cons (.int _) t => by rw [ints_back t]; rfl
theorem layAll_iff {ds : List PyData} : PyData.canLayAll0 ds = true ↔ ∀ d ∈ ds, d.canLay0 = true := by
  induction ds with
  | nil => exact ⟨fun _ d m => absurd m List.not_mem_nil, fun _ => rfl⟩
  | cons a r ih =>
    rw [PyData.canLayAll0, Bool.and_eq_true, ih]
    exact ⟨fun h d m => (List.mem_cons.mp m).elim (fun e => e ▸ h.1) (h.2 d), fun h => ⟨h a List.mem_cons_self, fun d m => h d (List.mem_cons_of_mem _ m)⟩⟩
theorem dpAll_iff {n : Nat} {ds : List PyData} : PyData.depthAll ds ≤ n ↔ ∀ d ∈ ds, d.depth ≤ n := by
  induction ds with
  | nil => exact ⟨fun _ d m => absurd m List.not_mem_nil, fun _ => Nat.zero_le _⟩
  | cons a r ih =>
    rw [show PyData.depthAll (a :: r) = max a.depth (PyData.depthAll r) from rfl, Nat.max_le, ih]
    exact ⟨fun h d m => (List.mem_cons.mp m).elim (fun e => e ▸ h.1) (h.2 d), fun h => ⟨h a List.mem_cons_self, fun d m => h d (List.mem_cons_of_mem _ m)⟩⟩
theorem ixN_nat {n j : Nat} (hj : j < n) : ixN n (j : Int) = some j := by
  unfold ixN
  rw [if_pos (by omega), if_pos (by omega)]
  simp
theorem sh_ints (ns : List Int) : SeqAt.shaped (.list (ns.map PyData.int)) = true := by
  refine shaped_of (layAll_iff.mpr fun d hd => by obtain ⟨i, _, rfl⟩ := List.mem_map.mp hd; rfl) ?_
  have : PyData.depthAll (ns.map PyData.int) ≤ 0 := dpAll_iff.mpr fun d hd => by obtain ⟨i, _, rfl⟩ := List.mem_map.mp hd; exact Nat.le_refl _
  show _ + 1 ≤ 64
  omega
end MZ
/-! Charts as data. -/
namespace MZ
open PySem PySem.Spec PyProof.Rows L2 LK MY
/-- what a stitch takes and draws -/
abbrev Sti := Nat × Nat
def stD (s : Sti) : PyData := .tuple [.int (s.1 : Int), .int (s.2 : Int)]
structure Rw where
  nm : Str
  off : Nat
  sts : List Sti
def rwD (r : Rw) : PyData := .tuple [.str r.nm, .int (r.off : Int), .tuple (r.sts.map stD)]
def tks (ss : List Sti) : Nat := (ss.map fun s => s.1).sum
def drs (ss : List Sti) : Nat := (ss.map fun s => s.2).sum
structure OkSt (ss : List Sti) (count due : Nat) : Prop where
  tk : tks ss = count
  dr : drs ss = due
  ok : ∀ s ∈ ss, s.1 ≤ 3 ∧ 1 ≤ s.2 ∧ s.2 ≤ 3
structure OkRow (c : Nat) (r : Rw) : Prop where
  nm : Yn r.nm
  off : r.off < c
  sts : OkSt r.sts c (drs r.sts)
/-- rows that fit one above the other -/
def Rows : Nat → List Rw → Nat → Prop
  | c, [], c' => c = c'
  | c, r :: rs, c' => OkRow c r ∧ Rows (drs r.sts) rs c'
def cnts (c : Nat) (rs : List Rw) : List Nat := c :: rs.map fun r => drs r.sts
theorem tks_app (a b : List Sti) : tks (a ++ b) = tks a + tks b := by
  unfold tks
  rw [List.map_append, List.sum_append]
theorem drs_app (a b : List Sti) : drs (a ++ b) = drs a + drs b := by
  unfold drs
  rw [List.map_append, List.sum_append]
theorem len_drs : ∀ {ss : List Sti}, (∀ s ∈ ss, 1 ≤ s.2) → ss.length ≤ drs ss
  | [], _ => Nat.zero_le _
  | a :: r, h => by
    have h1 := h a List.mem_cons_self
    have h2 := len_drs (ss := r) fun s m => h s (List.mem_cons_of_mem _ m)
    unfold drs at h2 ⊢
    rw [List.length_cons, List.map_cons, List.sum_cons]
    omega
theorem OkSt.len {ss : List Sti} {c d : Nat} (h : OkSt ss c d) : ss.length ≤ d := by
  rw [← h.dr]
  exact len_drs fun s m => (h.ok s m).2.1
theorem noL_st (s : Sti) : noL (stD s) = true := rfl
theorem noLs_sts (ss : List Sti) : noLs (ss.map stD) = true := noLs_iff.mpr fun d hd => by
  obtain ⟨s, _, rfl⟩ := List.mem_map.mp hd
  rfl
theorem noL_rw (r : Rw) : noL (rwD r) = true := by
  show (true && (true && (noLs (r.sts.map stD) && true))) = true
  rw [noLs_sts]
  rfl
theorem noLs_rws (rs : List Rw) : noLs (rs.map rwD) = true := noLs_iff.mpr fun d hd => by
  obtain ⟨s, _, rfl⟩ := List.mem_map.mp hd
  exact noL_rw s
theorem rows_app {c d e : Nat} : ∀ {rs qs : List Rw}, Rows c rs d → Rows d qs e → Rows c (rs ++ qs) e
  | [], _, h, k => by
    cases (show c = d from h)
    exact k
  | r :: rs, _, h, k => ⟨h.1, rows_app h.2 k⟩
theorem cnts_len (c : Nat) (rs : List Rw) : (cnts c rs).length = rs.length + 1 := by
  unfold cnts
  rw [List.length_cons, List.length_map]
theorem cnts_end {c d : Nat} : ∀ {rs : List Rw}, Rows c rs d → (cnts c rs)[rs.length]? = some d
  | [], h => by
    cases (show c = d from h)
    rfl
  | r :: rs, h => by
    have := cnts_end h.2
    unfold cnts at this ⊢
    rw [List.length_cons, List.getElem?_cons_succ, List.map_cons]
    exact this
theorem rows_at {d : Nat} : ∀ {c : Nat} {rs : List Rw} {i : Nat} {r : Rw}, Rows c rs d → rs[i]? = some r → ∃ a, (cnts c rs)[i]? = some a ∧ (cnts c rs)[i + 1]? = some (drs r.sts) ∧ OkRow a r
  | c, q :: rs, 0, r, h, e => by
    cases e
    exact ⟨c, rfl, rfl, h.1⟩
  | c, q :: rs, i + 1, r, h, e => by
    obtain ⟨a, h1, h2, h3⟩ := rows_at (i := i) h.2 (by simpa using e)
    exact ⟨a, by unfold cnts at h1 ⊢; rw [List.getElem?_cons_succ, List.map_cons]; exact h1, by unfold cnts at h2 ⊢; rw [List.getElem?_cons_succ, List.map_cons]; exact h2, h3⟩
end MZ
/-! _law_stitches -/
namespace S8
open PySem PySem.Spec PyProof.Rows L2 LK MY MZ
theorem nI_get {ks : List Nat} {i k : Nat} (h : ks[i]? = some k) : (nI ks)[i]? = some (V.int (k : Int)) := by
  unfold nI
  rw [List.getElem?_map, h]
  rfl
theorem nI_set (ks : List Nat) (i k : Nat) : nI (ks.set i k) = (nI ks).set i (V.int (k : Int)) := by
  unfold nI
  rw [List.map_set]
theorem sum_ge : ∀ {ts : List Nat}, (∀ x ∈ ts, 3 ≤ x) → 3 * ts.length ≤ ts.sum
  | [], _ => Nat.le_refl _
  | a :: r, h => by
    have h1 := h a List.mem_cons_self
    have h2 := sum_ge (ts := r) fun x m => h x (List.mem_cons_of_mem _ m)
    rw [List.length_cons, List.sum_cons]
    omega
theorem sum_set : ∀ {ts : List Nat} {i z : Nat}, ts[i]? = some z → ∀ v, (ts.set i v).sum + z = ts.sum + v
  | a :: r, 0, z, h, v => by
    cases h
    rw [List.set_cons_zero, List.sum_cons, List.sum_cons]
    omega
  | a :: r, i + 1, z, h, v => by
    have := sum_set (ts := r) (i := i) (z := z) (by simpa using h) v
    rw [List.set_cons_succ, List.sum_cons, List.sum_cons]
    omega
/-- right stitches, drawn -/
def spStc (K : PySem.W.Frag) : Sp := fun vs H Q _ => ∃ (c : Addr) (count due B : Nat), vs = [.ref c, .int count, .int due] ∧ 1 ≤ count ∧ count ≤ 100 ∧ 1 ≤ due ∧ due ≤ 100 ∧ (count + 2) / 3 ≤ due ∧ CR H c B ∧ B + 1000 < 10 ^ 12 ∧
  ∀ (t : Addr) (H' : Hp) (xs : List V) (ss : List Sti), CR H' c (B + 1000) → Bt c H H' → H' t = some (.tup xs) → DpAll K H' xs (ss.map stD) → OkSt ss count due → Q (.ref t) H'
section
variable {P : Program} {w : World} {K : PySem.W.Frag} {mg : Str → Option Value} {base : Heap}
abbrev sStc : Stmt := top 46
theorem scStc : FnScope ["creel", "count", "due", "low", "many", "takes", "draws", "laid", "turn_v", "spots", "spot", "found", "some", "k"] ["creel", "count", "due"] (defScope sStc) := ⟨rfl, rfl, rfl, by decide +kernel, rfl, by decide +kernel, by decide +kernel⟩
theorem ok_Stc {f : Addr} {fd : FuncData} (F : Fun K "_law_stitches" "_law_stitches" sStc f fd) (B : Bl mg)
    {f__law_ply : Addr} {d__law_ply : FuncData} (G__law_ply : FnOk P w K mg base CX0 1 f__law_ply d__law_ply ["creel", "span"] spPly) (g__law_ply : mg "_law_ply" = some (.ref f__law_ply)) (k__law_ply : PySem.W.keepIn K (.ref f__law_ply) = true) (b__law_ply : Binds K d__law_ply ["creel", "span"] []) : FnOk P w K mg base CX0 2 f fd ["creel", "count", "due"] (spStc K) := by
  refine F.ok scStc (fun vs H Q E h => ?_) (fun cdv A outer s H vs Q E hr h => ?_)
  · obtain ⟨c, count, due, _, rfl, _⟩ := h
    rfl
  · obtain ⟨c, count, due, bb, rfl, c1, c100, d1, d100, cd, hc, hB, k⟩ := h
    refine ⟨_, pss_cons (ps_set (i := 3) scStc.nd rfl (Or.inl rfl) (pe_op op_fdivW (pe_op op_add (pv 1) pe_int) pe_int))
      (pss_cons (ps_set (i := 4) scStc.nd rfl (Or.inl rfl) (pe_op op_add (pv 3) (pe_call (E := E0) G__law_ply (hr.mono (by decide)) rfl g__law_ply k__law_ply b__law_ply .nil pass0 (pa_cons (pv 0) (pa_cons (pe_op op_add (pe_op op_sub (pe_callB (call_min2 rfl) (by rfl) (B "min" (by decide)) (by decide +kernel) (pa_cons (pv 1) (pa_cons (pv 2) pa_nil))) (pv 3)) pe_int) pa_nil)))))
      (pss_cons (ps_asg (pe_tup (pa_cons (pe_lc (own := [("k", 13)]) (g := gName 13) (tt := tYes) rfl scStc.nd (pi_range1 (by rfl) (B "range" (by decide)) (pa_cons (pv 4) pa_nil)) (blkOk_by (N := ["creel", "count", "due", "low", "many", "takes", "draws", "laid", "turn_v", "spots", "spot", "found", "some", "k"]) (sc := defScope sStc) (by decide +kernel)) (fun _ _ _ _ _ => pg_name (i := 13) scStc.nd rfl (Or.inl rfl)) (fun _ _ _ _ _ => pts_nil) (fun _ _ _ _ _ => pe_int)) (pa_cons (pe_lc (own := [("k", 13)]) (g := gName 13) (tt := tYes) rfl scStc.nd (pi_range1 (by rfl) (B "range" (by decide)) (pa_cons (pv 4) pa_nil)) (blkOk_by (N := ["creel", "count", "due", "low", "many", "takes", "draws", "laid", "turn_v", "spots", "spot", "found", "some", "k"]) (sc := defScope sStc) (by decide +kernel)) (fun _ _ _ _ _ => pg_name (i := 13) scStc.nd rfl (Or.inl rfl)) (fun _ _ _ _ _ => pts_nil) (fun _ _ _ _ _ => pe_int)) (pa_cons pe_int pa_nil)))) (pg_tup rfl (pgs_cons (pg_name (i := 5) scStc.nd rfl (Or.inr rfl)) (pgs_cons (pg_name (i := 6) scStc.nd rfl (Or.inr rfl)) (pgs_cons (pg_name (i := 7) scStc.nd rfl (Or.inl rfl)) pgs_nil)))))
      (pss_cons (ps_for PassesOwn.never rfl (pi_range1 (by rfl) (B "range" (by decide)) (pa_cons (pe_op op_sub (pv 1) (pv 4)) pa_nil)) (pg_name (i := 8) scStc.nd rfl (Or.inl rfl)) (pss_cons (ps_setLc (i := 9) (own := [("k", 13)]) (g := gName 13) rfl scStc.nd rfl rfl (sw_true rfl rfl rfl (by decide +kernel)) (pi_range1 (by rfl) (B "range" (by decide)) (pa_cons (pv 4) pa_nil)) (blkOk_by (N := ["creel", "count", "due", "low", "many", "takes", "draws", "laid", "turn_v", "spots", "spot", "found", "some", "k"]) (sc := defScope sStc) (by decide +kernel)) (fun _ _ _ _ _ => pg_name (i := 13) scStc.nd rfl (Or.inl rfl)) (fun _ _ _ _ _ => pts_one (pt_cmpR op_lt (pe_ix (ixl (K := K)) (pv 5) (pv 13) (fun _ _ => rfl)) pe_int (nomark _))) (fun _ _ _ _ _ => pv 13))
      (pss_cons (ps_set (i := 10) scStc.nd rfl (Or.inl rfl) (pe_ix ix_list (pv 9) (pe_call (E := E0) G__law_ply (hr.mono (by decide)) rfl g__law_ply k__law_ply b__law_ply .nil pass0 (pa_cons (pv 0) (pa_cons (pe_callB call_len_seq (by rfl) (B "len" (by decide)) (by decide +kernel) (pa_cons (pv 9) pa_nil)) pa_nil))) (fun _ _ => rfl)))
      (pss_one (ps_asg (pe_op op_add (pe_ix ix_list (pv 5) (pv 10) (fun _ _ => rfl)) pe_int) (pg_sub (pv 5) (pv 10) set_list))))))
      (pss_cons (ps_for PassesOwn.never rfl (pi_range1 (by rfl) (B "range" (by decide)) (pa_cons (pe_op op_sub (pv 2) (pv 4)) pa_nil)) (pg_name (i := 8) scStc.nd rfl (Or.inl rfl)) (pss_cons (ps_setLc (i := 9) (own := [("k", 13)]) (g := gName 13) rfl scStc.nd rfl rfl (sw_true rfl rfl rfl (by decide +kernel)) (pi_range1 (by rfl) (B "range" (by decide)) (pa_cons (pv 4) pa_nil)) (blkOk_by (N := ["creel", "count", "due", "low", "many", "takes", "draws", "laid", "turn_v", "spots", "spot", "found", "some", "k"]) (sc := defScope sStc) (by decide +kernel)) (fun _ _ _ _ _ => pg_name (i := 13) scStc.nd rfl (Or.inl rfl)) (fun _ _ _ _ _ => pts_one (pt_cmpR op_lt (pe_ix (ixl (K := K)) (pv 6) (pv 13) (fun _ _ => rfl)) pe_int (nomark _))) (fun _ _ _ _ _ => pv 13))
      (pss_cons (ps_set (i := 10) scStc.nd rfl (Or.inl rfl) (pe_call (E := E0) G__law_ply (hr.mono (by decide)) rfl g__law_ply k__law_ply b__law_ply .nil pass0 (pa_cons (pv 0) (pa_cons (pe_op op_add (pe_callB call_len_seq (by rfl) (B "len" (by decide)) (by decide +kernel) (pa_cons (pv 9) pa_nil)) pe_int) pa_nil))))
      (pss_one (ps_if (pt_cmpR op_lt (pv 10) (pe_callB call_len_seq (by rfl) (B "len" (by decide)) (by decide +kernel) (pa_cons (pv 9) pa_nil)) (nomark _)) (pss_one (ps_asg (pe_op op_add (pe_ix ix_list (pv 6) (pe_ix ix_list (pv 9) (pv 10) (fun _ _ => rfl)) (fun _ _ => rfl)) pe_int) (pg_sub (pv 6) (pe_ix ix_list (pv 9) (pv 10) (fun _ _ => rfl)) set_list))) (pss_one (ps_set (i := 7) scStc.nd rfl (Or.inl rfl) (pe_op op_add (pv 7) pe_int))))))))
      (pss_cons (ps_setLc (i := 11) (own := [("k", 13)]) (g := gName 13) (tt := tYes) rfl scStc.nd rfl rfl (sw_true rfl rfl rfl (by decide +kernel)) (pi_range1 (by rfl) (B "range" (by decide)) (pa_cons (pv 4) pa_nil)) (blkOk_by (N := ["creel", "count", "due", "low", "many", "takes", "draws", "laid", "turn_v", "spots", "spot", "found", "some", "k"]) (sc := defScope sStc) (by decide +kernel)) (fun _ _ _ _ _ => pg_name (i := 13) scStc.nd rfl (Or.inl rfl)) (fun _ _ _ _ _ => pts_nil) (fun _ _ _ _ _ => pe_tup (pa_cons (pe_ix (ixl (K := K)) (pv 5) (pv 13) (fun _ _ => rfl)) (pa_cons (pe_ix (ixl (K := K)) (pv 6) (pv 13) (fun _ _ => rfl)) pa_nil))))
      (pss_cons (ps_for PassesOwn.never rfl (pi_range1 (by rfl) (B "range" (by decide)) (pa_cons (pv 7) pa_nil)) (pg_name (i := 8) scStc.nd rfl (Or.inl rfl)) (pss_cons (ps_par (i := 10) (j := 12) rfl scStc.nd rfl rfl (by decide) rfl rfl (pa_cons (pe_call (E := E0) G__law_ply (hr.mono (by decide)) rfl g__law_ply k__law_ply b__law_ply .nil pass0 (pa_cons (pv 0) (pa_cons (pe_op op_add (pe_callB call_len_seq (by rfl) (B "len" (by decide)) (by decide +kernel) (pa_cons (pv 11) pa_nil)) pe_int) pa_nil))) (pa_cons (pe_callB (call_min2 rfl) (by rfl) (B "min" (by decide)) (by decide +kernel) (pa_cons (pv 7) (pa_cons (pe_op op_add pe_int (pe_call (E := E0) G__law_ply (hr.mono (by decide)) rfl g__law_ply k__law_ply b__law_ply .nil pass0 (pa_cons (pv 0) (pa_cons pe_int pa_nil)))) pa_nil))) pa_nil)) (by rfl))
      (pss_one (ps_if (pt_cmpR op_gt (pv 12) pe_int (nomark _)) (pss_one (ps_par (i := 11) (j := 7) rfl scStc.nd rfl rfl (by decide) rfl rfl (pa_cons (pe_op op_cat (pe_op op_cat (pe_slice sl_list (pv 11) po_none (po_some (pv 10))) (pe_lst (pa_cons (pe_tup (pa_cons pe_int (pa_cons (pv 12) pa_nil))) pa_nil))) (pe_slice sl_list (pv 11) (po_some (pv 10)) po_none)) (pa_cons (pe_op op_sub (pv 7) (pv 12)) pa_nil)) (by rfl))) pss_nil))))
      (pss_one (ps_ret (pe_callTy call_tuple_of (by rfl) (B "tuple" (by decide)) (by decide +kernel) (pa_cons (pv 11) pa_nil)))))))))), ?_⟩
    have ty2 : sizeLine = 16777216 := sizeLine_eq
    refine ⟨_, rfl, _, _, rfl, rfl, _, _, rfl, rfl, wide_div (b := 2) (by decide) (by decide) (by decide) (by decide), ?_⟩
    dsimp only
    rw [show ((count : Int) + 2) / 3 = (((count + 2) / 3 : Nat) : Int) by omega]
    obtain ⟨low, hlow⟩ : ∃ low, (count + 2) / 3 = low := ⟨_, rfl⟩
    rw [hlow] at cd ⊢
    dsimp only [gName, List.set]
    refine ⟨_, rfl, _, rfl, _, rfl, _, rfl, _, _, rfl, ?_⟩
    dsimp only
    have mn : (if (due : Int) < (count : Int) then (due : Int) else (count : Int)) = ((min count due : Nat) : Int) := by
      split <;> omega
    rw [mn]
    refine ⟨_, rfl, _, _, rfl, rfl, _, _, rfl, rfl, c, _, bb, rfl, by omega, by omega, hc, by omega, fun d H1 q0 q1 cr1 b1 _ => ⟨_, _, rfl, rfl, ?_⟩⟩
    obtain ⟨dn, rfl⟩ := Int.eq_ofNat_of_zero_le q0
    obtain ⟨many, hm⟩ : ∃ many : Nat, low + dn = many := ⟨_, rfl⟩
    dsimp only
    rw [show (low : Int) + (dn : Int) = (many : Int) by omega]
    have m1 : 1 ≤ many := by omega
    have mc : many ≤ count := by omega
    have md : many ≤ due := by omega
    have m3 : count ≤ 3 * many := by omega
    clear q0 q1 hm mn hlow
    dsimp only [gName, List.set]
    refine asgI ?_
    refine ⟨_, rfl, (many : Int), rfl, by omega, by omega, fun T nT => ?_⟩
    have ones : ((List.range many).filter fun _ => true).map (fun _ => V.int 1) = nI (List.replicate many 1) := by
      rw [List.filter_eq_self.mpr (fun _ _ => rfl)]
      unfold nI
      rw [List.map_replicate, List.map_const', List.length_range]
      rfl
    rw [Int.toNat_natCast]
    refine lcf_range (n := many) (fun _ => true) (fun _ => .int 1) nT (by omega) (fun i H2 yes no hi s2 y n => ⟨rfl, y rfl _ (Same.refl _)⟩) (fun H2 s2 eT => ?_)
    rw [ones] at eT
    refine ⟨_, rfl, (many : Int), rfl, by omega, by omega, fun W nW => ?_⟩
    rw [Int.toNat_natCast]
    refine lcf_range (n := many) (fun _ => true) (fun _ => .int 1) nW (by omega) (fun i H3 yes no hi s3 y n => ⟨rfl, y rfl _ (Same.refl _)⟩) (fun H3 s3 eW => ?_)
    rw [ones] at eW
    refine ⟨by show 3 ≤ sizeLine; decide, fun u nu => ?_⟩
    refine ⟨u, _, rfl, SqT.of upd_same, rfl, ?_⟩
    refine ⟨_, _, rfl, _, _, rfl, _, _, rfl, rfl, ?_⟩
    dsimp only [gName, gCons, gNil, List.set, tSeq]
    have hT0 : H T = none := by
      cases e : H T with
      | none => rfl
      | some o =>
        have := b1 _ _ (cr_ne cr1 nT) e
        rw [nT] at this
        cases this
    have Tc := cr_ne cr1 nT
    have hW1 : H1 W = none := gone s2 nW
    have hW0 : H W = none := by
      cases e : H W with
      | none => rfl
      | some o =>
        have := b1 _ _ (cr_ne cr1 hW1) e
        rw [hW1] at this
        cases this
    have Wc := cr_ne cr1 hW1
    have TW : T ≠ W := ne_none eT nW
    have s4 := (s2.trans s3).trans (same_new (o := .tup [.ref T, .ref W, .int 0]) nu)
    have cr4 := cr1.same s4
    have b4 := b1.trans (Bt.of (c := c) s4)
    have eT4 := same_new (o := .tup [.ref T, .ref W, .int 0]) nu _ _ (s3 _ _ eT)
    have eW4 := same_new (o := .tup [.ref T, .ref W, .int 0]) nu _ _ eW
    generalize upd H3 u (.tup [.ref T, .ref W, .int 0]) = H4 at cr4 b4 eT4 eW4
    clear s4 s3 s2 nu nW nT eT eW ones
    have toH : ∀ {Hn : Hp} {p : Addr} {B' : Nat}, Bt c H Hn → CR Hn c B' → Hn p = none → H p = none ∧ p ≠ c := fun {Hn p B'} bn cn np => by
      refine ⟨?_, cr_ne cn np⟩
      cases e : H p with
      | none => rfl
      | some o =>
        have := bn _ _ (cr_ne cn np) e
        rw [np] at this
        cases this
    refine stJ (fun σ Hn => ∃ (ts : List Nat) (o8 o9 o10 o11 o12 o13 : Option V), σ = [some (.ref c), some (.int count), some (.int due), some (.int low), some (.int many), some (.ref T), some (.ref W), some (.int 0), o8, o9, o10, o11, o12, o13] ∧ Hn T = some (.lst (nI ts)) ∧ Hn W = some (.lst (nI (List.replicate many 1))) ∧ CR Hn c (bb + 101) ∧ Bt c H Hn ∧ ts.length = many ∧ (∀ x ∈ ts, 1 ≤ x ∧ x ≤ 3) ∧ ts.sum = count) (fun D' aft => ?_) ?_
    · refine ⟨_, rfl, _, rfl, _, _, rfl, rfl, _, rfl, by omega, by omega, ?_⟩
      rw [show ((count : Int) - (many : Int)).toNat = count - many by omega]
      refine for_range (lo := 0) (n := count - many) (fun i σ Hn => ∃ (ts : List Nat) (o8 o9 o10 o11 o12 o13 : Option V), σ = [some (.ref c), some (.int count), some (.int due), some (.int low), some (.int many), some (.ref T), some (.ref W), some (.int 0), o8, o9, o10, o11, o12, o13] ∧ Hn T = some (.lst (nI ts)) ∧ Hn W = some (.lst (nI (List.replicate many 1))) ∧ CR Hn c (bb + 1 + i) ∧ Bt c H Hn ∧ ts.length = many ∧ (∀ x ∈ ts, 1 ≤ x ∧ x ≤ 3) ∧ ts.sum = many + i)
        ⟨List.replicate many 1, _, _, _, _, _, _, rfl, eT4, eW4, cr4, b4, List.length_replicate, fun x m => by rw [List.eq_of_mem_replicate m]; omega, by rw [List.sum_replicate_nat]; omega⟩ (fun i σ Hn hi hI => ?_) (fun σ Hn hI => ?_)
      · obtain ⟨ts, o8, o9, o10, o11, o12, o13, rfl, eT, eW, cn, bn, tl, tr, tsum⟩ := hI
        dsimp only [gName, List.set, tSeq]
        refine ⟨_, rfl, (many : Int), rfl, by omega, by omega, fun S nS => ?_⟩
        rw [Int.toNat_natCast]
        refine lcf_range (n := many) (fun k => decide ((ts[k]?).getD 0 < 3)) (fun k => .int (k : Int)) nS (by omega) (fun k H5 yes no hk s5 y n => ⟨rfl, ?_⟩) (fun H5 s5 eS => ?_)
        · obtain ⟨z, hz⟩ : ∃ z, ts[k]? = some z := ⟨_, List.getElem?_eq_getElem (by omega)⟩
          refine ⟨_, rfl, _, rfl, T, _, (k : Int), .int (z : Int), rfl, rfl, SqL.of (s5 _ _ eT), atI_nat (nI_get hz), _, _, rfl, rfl, _, rfl, ?_⟩
          by_cases q : z < 3
          · exact LK.ifT (decide_eq_true (by omega)) ⟨_, rfl, y (decide_eq_true (by rw [hz]; exact q)) _ (Same.refl _)⟩
          · exact LK.ifF (decide_eq_false (by omega)) (n (decide_eq_false (by rw [hz]; exact q)) _ (Same.refl _))
        have sub : ∀ k ∈ (List.range many).filter fun k => decide ((ts[k]?).getD 0 < 3), k < many ∧ ∃ z, ts[k]? = some z ∧ z < 3 := fun k hk => by
          obtain ⟨h1, h2⟩ := List.mem_filter.mp hk
          have h1 := List.mem_range.mp h1
          obtain ⟨z, hz⟩ : ∃ z, ts[k]? = some z := ⟨_, List.getElem?_eq_getElem (by omega)⟩
          have h2 := of_decide_eq_true h2
          rw [hz] at h2
          exact ⟨h1, z, hz, h2⟩
        have some_ : 0 < ((List.range many).filter fun k => decide ((ts[k]?).getD 0 < 3)).length := by
          refine List.length_pos_iff.mpr fun e => ?_
          have all : ∀ x ∈ ts, 3 ≤ x := fun x m => by
            obtain ⟨j, hj⟩ := List.getElem?_of_mem m
            have jl := (List.getElem?_eq_some_iff.mp hj).1
            have := List.filter_eq_nil_iff.mp e j (List.mem_range.mpr (by omega))
            rw [decide_eq_true_eq, hj] at this
            exact Nat.le_of_not_lt this
          have := sum_ge all
          omega
        have lle : ((List.range many).filter fun k => decide ((ts[k]?).getD 0 < 3)).length ≤ many := by
          have := List.length_filter_le (fun k => decide ((ts[k]?).getD 0 < 3)) (List.range many)
          rwa [List.length_range] at this
        have eS : H5 S = some (.lst (nI ((List.range many).filter fun k => decide ((ts[k]?).getD 0 < 3)))) := eS
        generalize ((List.range many).filter fun k => decide ((ts[k]?).getD 0 < 3)) = sp at eS sub some_ lle
        have c5 := cn.same s5
        have b5 := bn.trans (Bt.of (c := c) s5)
        have Sc := cr_ne cn nS
        dsimp only [gName, List.set, tSeq]
        refine ⟨_, rfl, _, rfl, _, rfl, S, _, rfl, .inl (SqL.of eS), ?_⟩
        rw [List.length_map]
        refine ⟨c, sp.length, _, rfl, by omega, by omega, c5, by omega, fun q H6 q0 q1 c6 b6 _ => ?_⟩
        obtain ⟨qn, rfl⟩ := Int.eq_ofNat_of_zero_le q0
        obtain ⟨k0, hk0⟩ : ∃ k0, sp[qn]? = some k0 := ⟨_, List.getElem?_eq_getElem (by omega)⟩
        obtain ⟨kl, z, hz, z3⟩ := sub k0 (List.mem_of_getElem? hk0)
        have eT6 := b6 _ _ Tc (s5 _ _ eT)
        have eW6 := b6 _ _ Wc (s5 _ _ eW)
        have zr := tr z (List.mem_of_getElem? hz)
        refine ⟨S, _, _, .int (k0 : Int), rfl, rfl, SqL.of (b6 _ _ Sc eS), atI_nat (nI_get hk0), ?_⟩
        dsimp only [gName, List.set]
        refine ⟨_, rfl, _, rfl, T, _, (k0 : Int), .int (z : Int), rfl, rfl, SqL.of eT6, atI_nat (nI_get hz), _, _, rfl, rfl, ?_⟩
        refine ⟨_, rfl, _, rfl, T, _, _, k0, rfl, rfl, eT6, ixN_nat (by rw [List.length_map]; omega), ?_⟩
        refine ⟨ts.set k0 (z + 1), _, _, _, _, _, _, rfl, ?_, ?_, (c6.upd Tc).mono (by omega), fun b o n e => ?_, by rw [List.length_set]; exact tl, fun x m => ?_, ?_⟩
        · rw [upd_same]
          exact congrArg (fun l => some (HO.lst l)) (nI_set ts k0 (z + 1)).symm
        · rw [upd_ne TW.symm]
          exact eW6
        · rw [upd_ne (ne_none e hT0)]
          exact b6 _ _ n (b5 _ _ n e)
        · rcases List.mem_or_eq_of_mem_set m with m | rfl
          · exact tr x m
          · omega
        · have := sum_set hz (z + 1)
          omega
      · obtain ⟨ts, o8, o9, o10, o11, o12, o13, rfl, eT, eW, cn, bn, tl, tr, tsum⟩ := hI
        exact aft _ _ ⟨ts, _, _, _, _, _, _, rfl, eT, eW, cn.mono (by omega), bn, tl, tr, by omega⟩
    rintro σ Hn ⟨ts, o8, o9, o10, o11, o12, o13, rfl, eT, eW, cn, bn, tl, tr, tsum⟩
    -- the draws
    dsimp only [tSeq]
    refine stJ (fun σ Hn => ∃ (ds : List Nat) (laid : Nat) (o8 o9 o10 o11 o12 o13 : Option V), σ = [some (.ref c), some (.int count), some (.int due), some (.int low), some (.int many), some (.ref T), some (.ref W), some (.int (laid : Int)), o8, o9, o10, o11, o12, o13] ∧ Hn T = some (.lst (nI ts)) ∧ Hn W = some (.lst (nI ds)) ∧ CR Hn c (bb + 202) ∧ Bt c H Hn ∧ ds.length = many ∧ (∀ x ∈ ds, 1 ≤ x ∧ x ≤ 3) ∧ ds.sum + laid = due) (fun D' aft => ?_) ?_
    · refine ⟨_, rfl, _, rfl, _, _, rfl, rfl, _, rfl, by omega, by omega, ?_⟩
      rw [show ((due : Int) - (many : Int)).toNat = due - many by omega]
      refine for_range (lo := 0) (n := due - many) (fun i σ Hn => ∃ (ds : List Nat) (laid : Nat) (o8 o9 o10 o11 o12 o13 : Option V), σ = [some (.ref c), some (.int count), some (.int due), some (.int low), some (.int many), some (.ref T), some (.ref W), some (.int (laid : Int)), o8, o9, o10, o11, o12, o13] ∧ Hn T = some (.lst (nI ts)) ∧ Hn W = some (.lst (nI ds)) ∧ CR Hn c (bb + 101 + i) ∧ Bt c H Hn ∧ ds.length = many ∧ (∀ x ∈ ds, 1 ≤ x ∧ x ≤ 3) ∧ ds.sum + laid = many + i)
        ⟨List.replicate many 1, 0, _, _, _, _, _, _, rfl, eT, eW, cn, bn, List.length_replicate, fun x m => by rw [List.eq_of_mem_replicate m]; omega, by rw [List.sum_replicate_nat]; omega⟩ (fun i σ Hn hi hI => ?_) (fun σ Hn hI => ?_)
      · obtain ⟨ds, laid, o8, o9, o10, o11, o12, o13, rfl, eT, eW, cn, bn, dl, dr, dsum⟩ := hI
        dsimp only [gName, List.set, tSeq]
        refine ⟨_, rfl, (many : Int), rfl, by omega, by omega, fun S nS => ?_⟩
        rw [Int.toNat_natCast]
        refine lcf_range (n := many) (fun k => decide ((ds[k]?).getD 0 < 3)) (fun k => .int (k : Int)) nS (by omega) (fun k H5 yes no hk s5 y n => ⟨rfl, ?_⟩) (fun H5 s5 eS => ?_)
        · obtain ⟨z, hz⟩ : ∃ z, ds[k]? = some z := ⟨_, List.getElem?_eq_getElem (by omega)⟩
          refine ⟨_, rfl, _, rfl, W, _, (k : Int), .int (z : Int), rfl, rfl, SqL.of (s5 _ _ eW), atI_nat (nI_get hz), _, _, rfl, rfl, _, rfl, ?_⟩
          by_cases q : z < 3
          · exact LK.ifT (decide_eq_true (by omega)) ⟨_, rfl, y (decide_eq_true (by rw [hz]; exact q)) _ (Same.refl _)⟩
          · exact LK.ifF (decide_eq_false (by omega)) (n (decide_eq_false (by rw [hz]; exact q)) _ (Same.refl _))
        have sub : ∀ k ∈ (List.range many).filter fun k => decide ((ds[k]?).getD 0 < 3), k < many ∧ ∃ z, ds[k]? = some z ∧ z < 3 := fun k hk => by
          obtain ⟨h1, h2⟩ := List.mem_filter.mp hk
          have h1 := List.mem_range.mp h1
          obtain ⟨z, hz⟩ : ∃ z, ds[k]? = some z := ⟨_, List.getElem?_eq_getElem (by omega)⟩
          have h2 := of_decide_eq_true h2
          rw [hz] at h2
          exact ⟨h1, z, hz, h2⟩
        have lle : ((List.range many).filter fun k => decide ((ds[k]?).getD 0 < 3)).length ≤ many := by
          have := List.length_filter_le (fun k => decide ((ds[k]?).getD 0 < 3)) (List.range many)
          rwa [List.length_range] at this
        have eS : H5 S = some (.lst (nI ((List.range many).filter fun k => decide ((ds[k]?).getD 0 < 3)))) := eS
        generalize ((List.range many).filter fun k => decide ((ds[k]?).getD 0 < 3)) = sp at eS sub lle
        have c5 := cn.same s5
        have b5 := bn.trans (Bt.of (c := c) s5)
        have Sc := cr_ne cn nS
        dsimp only [gName, List.set, tSeq]
        refine ⟨_, rfl, _, rfl, S, _, rfl, .inl (SqL.of eS), ?_⟩
        rw [List.length_map]
        refine ⟨_, _, rfl, rfl, c, sp.length + 1, _, rfl, by omega, by omega, c5, by omega, fun q H6 q0 q1 c6 b6 _ => ?_⟩
        obtain ⟨qn, rfl⟩ := Int.eq_ofNat_of_zero_le q0
        have eT6 := b6 _ _ Tc (s5 _ _ eT)
        have eW6 := b6 _ _ Wc (s5 _ _ eW)
        have eS6 := b6 _ _ Sc eS
        dsimp only [gName, List.set]
        refine ⟨_, rfl, _, rfl, S, _, rfl, .inl (SqL.of eS6), ?_⟩
        rw [List.length_map]
        refine ⟨_, _, rfl, rfl, _, rfl, ?_⟩
        by_cases ql : qn < sp.length
        · refine LK.ifT (decide_eq_true (by omega)) ?_
          obtain ⟨k0, hk0⟩ : ∃ k0, sp[qn]? = some k0 := ⟨_, List.getElem?_eq_getElem ql⟩
          obtain ⟨kl, z, hz, z3⟩ := sub k0 (List.mem_of_getElem? hk0)
          have zr := dr z (List.mem_of_getElem? hz)
          refine ⟨_, rfl, _, rfl, _, rfl, S, _, (qn : Int), .int (k0 : Int), rfl, rfl, SqL.of eS6, atI_nat (nI_get hk0), W, _, (k0 : Int), .int (z : Int), rfl, rfl, SqL.of eW6, atI_nat (nI_get hz), _, _, rfl, rfl, ?_⟩
          refine ⟨_, rfl, _, rfl, _, rfl, S, _, (qn : Int), .int (k0 : Int), rfl, rfl, SqL.of eS6, atI_nat (nI_get hk0), W, _, _, k0, rfl, rfl, eW6, ixN_nat (by rw [List.length_map]; omega), ?_⟩
          refine ⟨ds.set k0 (z + 1), laid, _, _, _, _, _, _, rfl, ?_, ?_, (c6.upd Wc).mono (by omega), fun b o n e => ?_, by rw [List.length_set]; exact dl, fun x m => ?_, ?_⟩
          · rw [upd_ne TW]
            exact eT6
          · rw [upd_same]
            exact congrArg (fun l => some (HO.lst l)) (nI_set ds k0 (z + 1)).symm
          · rw [upd_ne (ne_none e hW0)]
            exact b6 _ _ n (b5 _ _ n e)
          · rcases List.mem_or_eq_of_mem_set m with m | rfl
            · exact dr x m
            · omega
          · have := sum_set hz (z + 1)
            omega
        · refine LK.ifF (decide_eq_false (by omega)) ?_
          refine ⟨_, rfl, _, _, rfl, rfl, ds, laid + 1, _, _, _, _, _, _, rfl, eT6, eW6, c6.mono (by omega), b5.trans b6, dl, dr, by omega⟩
      · obtain ⟨ds, laid, o8, o9, o10, o11, o12, o13, rfl, eT, eW, cn, bn, dl, dr, dsum⟩ := hI
        exact aft _ _ ⟨ds, laid, _, _, _, _, _, _, rfl, eT, eW, cn.mono (by omega), bn, dl, dr, by omega⟩
    clear bn cn eW eT cr4 b4 eT4 eW4
    rintro σ Hn ⟨ds, laid, o8, o9, o10, o11, o12, o13, rfl, eT, eW, cn, bn, dl, dr, dsum⟩
    -- found
    dsimp only [tSeq]
    refine ⟨_, rfl, (many : Int), rfl, by omega, by omega, fun D nD => ?_⟩
    rw [Int.toNat_natCast]
    obtain ⟨hD0, Dc⟩ := toH bn cn nD
    refine lc_range (lo := 0) (n := many) (fun j H' => ∃ xs : List V, H' D = some (.lst xs) ∧ DpAll K H' xs (((ts.zip ds).take j).map stD) ∧ Same Hn H') ⟨[], upd_same, .nil, same_new nD⟩ (fun j H' hj hh => ⟨rfl, ?_⟩) (fun H' hh => ?_)
    · obtain ⟨xs, eD, dx, sx⟩ := hh
      obtain ⟨z, hz⟩ : ∃ z, ts[j]? = some z := ⟨_, List.getElem?_eq_getElem (by omega)⟩
      obtain ⟨y, hy⟩ : ∃ y, ds[j]? = some y := ⟨_, List.getElem?_eq_getElem (by omega)⟩
      rw [Int.zero_add]
      refine ⟨_, rfl, _, rfl, T, _, (j : Int), .int (z : Int), rfl, rfl, SqL.of (sx _ _ eT), atI_nat (nI_get hz), _, rfl, _, rfl, W, _, (j : Int), .int (y : Int), rfl, rfl, SqL.of (sx _ _ eW), atI_nat (nI_get hy), by show 2 ≤ sizeLine; decide, fun q nq => ?_⟩
      have tq := same_new (o := .tup [.int (z : Int), .int (y : Int)]) nq
      have xl := dps_len dx
      rw [List.length_map, List.length_take] at xl
      refine ⟨xs, tq _ _ eD, by omega, xs ++ [.ref q], upd_same, ?_, same_newU (sx.trans tq) nD⟩
      have tk : (ts.zip ds).take (j + 1) = (ts.zip ds).take j ++ [(z, y)] := by
        rw [List.take_add_one, (List.getElem?_zip_eq_some (z := (z, y))).mpr ⟨hz, hy⟩]
        rfl
      rw [tk, List.map_append]
      exact dps_tl (Tl.own (tq _ _ eD)) (by rw [← List.map_append]; exact noLs_sts _) (dps_app (dps_same tq dx) (.cons (.tup (SqT.of upd_same) (.cons (.int _) (.cons (.int _) .nil))) .nil))
    obtain ⟨xs, eD, dx, sx⟩ := hh
    have zl : (ts.zip ds).length = many := by rw [List.length_zip]; omega
    rw [List.take_of_length_le (by omega)] at dx
    have ok0 : ∀ s ∈ ts.zip ds, s.1 ≤ 3 ∧ 1 ≤ s.2 ∧ s.2 ≤ 3 := fun s m => by
      have m1 := tr s.1 (List.of_mem_zip m).1
      have m2 := dr s.2 (List.of_mem_zip m).2
      omega
    have tk0 : tks (ts.zip ds) = count := by
      unfold tks
      rw [show (fun s : Nat × Nat => s.1) = Prod.fst from rfl, List.map_fst_zip (by omega)]
      exact tsum
    have dr0 : drs (ts.zip ds) + laid = due := by
      unfold drs
      rw [show (fun s : Nat × Nat => s.2) = Prod.snd from rfl, List.map_snd_zip (by omega)]
      exact dsum
    generalize ts.zip ds = s0 at dx zl ok0 tk0 dr0
    have c6 := cn.same sx
    have b6 := bn.trans (Bt.of (c := c) sx)
    clear cn bn sx eT eW dsum dl dr tsum tl tr nD
    dsimp only [gName, List.set, tSeq]
    refine stJ (fun σ Hn => ∃ (F : Addr) (xs : List V) (ss : List Sti) (o7 o8 o9 o10 o12 o13 : Option V), σ = [some (.ref c), some (.int count), some (.int due), some (.int low), some (.int many), some (.ref T), some (.ref W), o7, o8, o9, o10, some (.ref F), o12, o13] ∧ Hn F = some (.lst xs) ∧ DpAll K Hn xs (ss.map stD) ∧ CR Hn c (bb + 700) ∧ Bt c H Hn ∧ (∀ s ∈ ss, s.1 ≤ 3 ∧ 1 ≤ s.2 ∧ s.2 ≤ 3) ∧ tks ss = count ∧ drs ss = due ∧ F ≠ c) (fun D' aft => ?_) ?_
    · refine ⟨_, rfl, (laid : Int), rfl, by omega, by omega, ?_⟩
      rw [Int.toNat_natCast]
      refine for_range (lo := 0) (n := laid) (fun i σ Hn => ∃ (F : Addr) (xs : List V) (ss : List Sti) (lf : Nat) (o8 o9 o10 o12 o13 : Option V), σ = [some (.ref c), some (.int count), some (.int due), some (.int low), some (.int many), some (.ref T), some (.ref W), some (.int (lf : Int)), o8, o9, o10, some (.ref F), o12, o13] ∧ Hn F = some (.lst xs) ∧ DpAll K Hn xs (ss.map stD) ∧ CR Hn c (bb + 202 + 2 * i) ∧ Bt c H Hn ∧ (∀ s ∈ ss, s.1 ≤ 3 ∧ 1 ≤ s.2 ∧ s.2 ≤ 3) ∧ tks ss = count ∧ drs ss + lf = due ∧ lf + i ≤ laid ∧ ss.length ≤ many + i ∧ F ≠ c)
        ⟨D, xs, s0, laid, _, _, _, _, _, rfl, eD, dx, c6, b6, ok0, tk0, dr0, by omega, by omega, Dc⟩ (fun i σ Hn hi hI => ?_) (fun σ Hn hI => ?_)
      · obtain ⟨F, xs, ss, lf, o8, o9, o10, o12, o13, rfl, eF, dx, cn, bn, ok, tk, dr, li, sl, Fc⟩ := hI
        have xl := dps_len dx
        rw [List.length_map] at xl
        dsimp only [gName, List.set, tSeq]
        refine ⟨_, rfl, _, rfl, F, _, rfl, .inl (SqL.of eF), _, _, rfl, rfl, c, xs.length + 1, _, rfl, by omega, by omega, cn, by omega, fun q H7 q0 q1 c7 b7 _ => ?_⟩
        obtain ⟨qn, rfl⟩ := Int.eq_ofNat_of_zero_le q0
        refine ⟨_, rfl, _, rfl, c, 3, _, rfl, by decide, by decide, c7, by omega, fun r H8 r0 r1 c8 b8 _ => ⟨_, _, rfl, rfl, _, _, rfl, _, _, rfl, ?_⟩⟩
        obtain ⟨rn, rfl⟩ := Int.eq_ofNat_of_zero_le r0
        obtain ⟨so, hso, so1, so2⟩ : ∃ so : Nat, (if (1 : Int) + (rn : Int) < (lf : Int) then (1 : Int) + (rn : Int) else (lf : Int)) = (so : Int) ∧ so ≤ lf ∧ so ≤ 3 ∧ (lf > 0 → so > 0) := by
          split
          · exact ⟨1 + rn, by omega, by omega, by omega, by omega⟩
          · exact ⟨lf, by omega, by omega, by omega, by omega⟩
        dsimp only [gName, List.set]
        rw [hso]
        have b78 := b7.trans b8
        have eF8 := b78 _ _ Fc eF
        have dx8 := dps_tl (Tl.bt cn b78) (noLs_sts ss) dx
        refine ⟨_, rfl, _, _, rfl, rfl, _, rfl, ?_⟩
        by_cases sz : 0 < so
        · refine LK.ifT (decide_eq_true (by omega)) ?_
          refine ⟨_, rfl, _, rfl, _, rfl, F, _, rfl, SqL.of eF8, fun A nA => ?_⟩
          rw [cut_to]
          have tA := same_new (o := .lst (xs.take qn)) nA
          have eA := upd_same (H := H8) (a := A) (o := .lst (xs.take qn))
          generalize upd H8 A (.lst (xs.take qn)) = H9 at tA eA
          refine ⟨_, rfl, by show 2 ≤ sizeLine; decide, fun w nw => ⟨by show 1 ≤ sizeLine; decide, fun M nM => ?_⟩⟩
          have tw := same_new (o := .tup [.int 0, .int (so : Int)]) nw
          have ew := upd_same (H := H9) (a := w) (o := .tup [.int 0, .int (so : Int)])
          change upd H9 w (.tup [.int 0, .int (so : Int)]) M = none at nM
          have tM := tw.trans (same_new (o := .lst [.ref w]) nM)
          have eM := upd_same (H := upd H9 w (.tup [.int 0, .int (so : Int)])) (a := M) (o := .lst [.ref w])
          have ew2 := same_new (o := .lst [.ref w]) nM _ _ ew
          have lA : (xs.take qn).length ≤ 300 := by rw [List.length_take]; omega
          refine ⟨A, M, _, _, rfl, rfl, tM _ _ eA, eM, by simp only [List.length_singleton]; omega, fun Z nZ => ?_⟩
          have tZ := tM.trans (same_new (o := .lst (xs.take qn ++ [.ref w])) nZ)
          have eZ := upd_same (H := upd (upd H9 w (.tup [.int 0, .int (so : Int)])) M (.lst [.ref w])) (a := Z) (o := .lst (xs.take qn ++ [.ref w]))
          have ew3 := same_new (o := .lst (xs.take qn ++ [.ref w])) nZ _ _ ew2
          generalize upd (upd (upd H9 w (.tup [.int 0, .int (so : Int)])) M (.lst [.ref w])) Z (.lst (xs.take qn ++ [.ref w])) = H10 at tZ eZ ew3
          have t810 := tA.trans tZ
          refine ⟨_, rfl, _, rfl, _, rfl, F, _, rfl, SqL.of (t810 _ _ eF8), fun B nB => ?_⟩
          rw [cut_drop]
          have tB := same_new (o := .lst (xs.drop qn)) nB
          have eB := upd_same (H := H10) (a := B) (o := .lst (xs.drop qn))
          generalize upd H10 B (.lst (xs.drop qn)) = H11 at tB eB
          have lB : (xs.drop qn).length ≤ 300 := by rw [List.length_drop]; omega
          refine ⟨Z, B, _, _, rfl, rfl, tB _ _ eZ, eB, by simp only [List.length_append, List.length_singleton]; omega, fun Y nY => ?_⟩
          have tY := same_new (o := .lst (xs.take qn ++ [.ref w] ++ xs.drop qn)) nY
          have s811 := (t810.trans tB).trans tY
          have c11 := (c8.same (t810.trans tB))
          refine ⟨_, rfl, _, rfl, _, _, rfl, rfl, _, _, rfl, Y, _, ss.take qn ++ [(0, so)] ++ ss.drop qn, lf - so, some (.int (0 + (i : Int))), o9, some (.int (qn : Int)), some (.int (so : Int)), o13, ?_, upd_same, ?_, (c11.same tY).mono (by omega), bn.trans (b78.trans (Bt.of s811)), ?_, ?_, ?_, by omega, ?_, cr_ne c11 nY⟩
          · dsimp only [List.set]
            rw [show ((lf : Int) - (so : Int)) = ((lf - so : Nat) : Int) by omega]
          · rw [List.map_append, List.map_append, List.map_take, List.map_drop]
            exact dps_app (dps_app (dps_take _ (dps_same s811 dx8)) (.cons (.tup (SqT.of (tY _ _ (tB _ _ ew3))) (.cons (.int _) (.cons (.int _) .nil))) .nil)) (dps_drop _ (dps_same s811 dx8))
          · intro s m
            rcases List.mem_append.mp m with m | m
            · rcases List.mem_append.mp m with m | m
              · exact ok s (List.mem_of_mem_take m)
              · rw [List.mem_singleton.mp m]
                exact ⟨by show 0 ≤ 3; decide, sz, so2.1⟩
            · exact ok s (List.mem_of_mem_drop m)
          · rw [tks_app, tks_app, ← tk]
            conv => rhs; rw [← List.take_append_drop qn ss, tks_app]
            show _ + 0 + _ = _
            omega
          · have e1 : drs ss = drs (ss.take qn) + drs (ss.drop qn) := by rw [← drs_app, List.take_append_drop]
            rw [drs_app, drs_app]
            have e2 : drs [(0, so)] = so := by show so + 0 = so; omega
            omega
          · simp only [List.length_append, List.length_take, List.length_drop, List.length_singleton]
            omega
        · refine LK.ifF (decide_eq_false (by omega)) ⟨F, xs, ss, lf, _, _, _, _, _, rfl, eF8, dx8, c8.mono (by omega), bn.trans b78, ok, tk, dr, by omega, by omega, Fc⟩
      · obtain ⟨F, xs, ss, lf, o8, o9, o10, o12, o13, rfl, eF, dx, cn, bn, ok, tk, dr, li, sl, Fc⟩ := hI
        exact aft _ _ ⟨F, xs, ss, _, _, _, _, _, _, rfl, eF, dx, cn.mono (by omega), bn, ok, tk, by omega, Fc⟩
    rintro σ Hn ⟨F, xs, ss, o7, o8, o9, o10, o12, o13, rfl, eF, dx, cn, bn, ok, tk, dr, Fc⟩
    refine ⟨_, rfl, F, _, rfl, .inl ⟨SqL.of eF, fun q nq => ?_⟩⟩
    exact k q _ xs ss ((cn.same (same_new nq)).mono (by omega)) (bn.trans (Bt.of (same_new nq))) upd_same (dps_same (same_new nq) dx) ⟨tk, dr, ok⟩
end
end S8
/-! _law_plan -/
namespace S8
open PySem PySem.Spec PyProof.Rows L2 LK MY MZ
theorem cnts_app (c : Nat) (rs : List Rw) (r : Rw) : cnts c (rs ++ [r]) = cnts c rs ++ [drs r.sts] := by
  unfold cnts
  rw [List.map_append]
  rfl
/-- a drawn chart: its width and its rows -/
structure Plan (K : PySem.W.Frag) (H : Hp) (t Ld : Addr) (xs : List V) (size : Nat) (rs : List Rw) : Prop where
  et : H t = some (.tup [.int size, .ref Ld])
  eL : H Ld = some (.lst xs)
  dL : DpAll K H xs (rs.map rwD)
  rows : Rows size rs size
def spPln (K : PySem.W.Frag) : Sp := fun vs H Q _ => ∃ (c : Addr) (most rm B : Nat), vs = [.ref c, .int most, .int rm] ∧ 1 ≤ most ∧ most ≤ 30 ∧ 1 ≤ rm ∧ rm ≤ 30 ∧ CR H c B ∧ B + 40000 < 10 ^ 12 ∧
  ∀ (t Ld : Addr) (H' : Hp) (xs : List V) (size : Nat) (rs : List Rw), CR H' c (B + 40000) → Bt c H H' → Plan K H' t Ld xs size rs → (∀ x ∈ cnts size rs, 1 ≤ x ∧ x ≤ most) → 1 ≤ rs.length → rs.length ≤ rm → H Ld = none → Ld ≠ c → Q (.ref t) H'
section
variable {P : Program} {w : World} {K : PySem.W.Frag} {mg : Str → Option Value} {base : Heap}
abbrev sPln : Stmt := top 47
theorem scPln : FnScope ["creel", "most", "rows_most", "size", "lines", "yarns", "count", "high", "turn_v", "low", "due"] ["creel", "most", "rows_most"] (defScope sPln) := ⟨rfl, rfl, rfl, by decide +kernel, rfl, by decide +kernel, by decide +kernel⟩
theorem ok_Pln {f : Addr} {fd : FuncData} (F : Fun K "_law_plan" "_law_plan" sPln f fd) (B : Bl mg)
    {f__law_ply : Addr} {d__law_ply : FuncData} (G__law_ply : FnOk P w K mg base CX0 1 f__law_ply d__law_ply ["creel", "span"] spPly) (g__law_ply : mg "_law_ply" = some (.ref f__law_ply)) (k__law_ply : PySem.W.keepIn K (.ref f__law_ply) = true) (b__law_ply : Binds K d__law_ply ["creel", "span"] [])
    {f__law_yarns : Addr} {d__law_yarns : FuncData} (G__law_yarns : FnOk P w K mg base CX0 2 f__law_yarns d__law_yarns ["creel", "many"] spYarns) (g__law_yarns : mg "_law_yarns" = some (.ref f__law_yarns)) (k__law_yarns : PySem.W.keepIn K (.ref f__law_yarns) = true) (b__law_yarns : Binds K d__law_yarns ["creel", "many"] [])
    {f__law_stitches : Addr} {d__law_stitches : FuncData} (G__law_stitches : FnOk P w K mg base CX0 2 f__law_stitches d__law_stitches ["creel", "count", "due"] (spStc K)) (g__law_stitches : mg "_law_stitches" = some (.ref f__law_stitches)) (k__law_stitches : PySem.W.keepIn K (.ref f__law_stitches) = true) (b__law_stitches : Binds K d__law_stitches ["creel", "count", "due"] []) : FnOk P w K mg base CX0 3 f fd ["creel", "most", "rows_most"] (spPln K) := by
  refine F.ok scPln (fun vs H Q E h => ?_) (fun cdv A outer s H vs Q E hr h => ?_)
  · obtain ⟨c, most, rm, _, rfl, _⟩ := h
    rfl
  · obtain ⟨c, most, rm, bb, rfl, m1, m30, r1, r30, hc, hB, k⟩ := h
    refine ⟨_, pss_cons (ps_par3 (i := 3) (j := 4) (l := 5) rfl scPln.nd rfl rfl rfl (by decide) (by decide) (by decide) rfl rfl rfl (pa_cons (pe_op op_add pe_int (pe_call (E := E0) G__law_ply (hr.mono (by decide)) rfl g__law_ply k__law_ply b__law_ply .nil pass0 (pa_cons (pv 0) (pa_cons (pv 1) pa_nil)))) (pa_cons (pe_lst pa_nil) (pa_cons (pe_call (E := E0) G__law_yarns (hr.mono (by decide)) rfl g__law_yarns k__law_yarns b__law_yarns .nil pass0 (pa_cons (pv 0) (pa_cons pe_int pa_nil))) pa_nil))) (by rfl))
      (pss_cons (ps_par (i := 6) (j := 7) rfl scPln.nd rfl rfl (by decide) rfl rfl (pa_cons (pv 3) (pa_cons (pe_op op_add pe_int (pe_call (E := E0) G__law_ply (hr.mono (by decide)) rfl g__law_ply k__law_ply b__law_ply .nil pass0 (pa_cons (pv 0) (pa_cons (pv 2) pa_nil)))) pa_nil)) (by rfl))
      (pss_cons (ps_for PassesOwn.never rfl (pi_range1 (by rfl) (B "range" (by decide)) (pa_cons (pv 7) pa_nil)) (pg_name (i := 8) scPln.nd rfl (Or.inl rfl)) (pss_cons (ps_set (i := 9) scPln.nd rfl (Or.inl rfl) (pe_op op_fdivW (pe_op op_add (pv 6) pe_int) pe_int))
      (pss_cons (ps_set (i := 10) scPln.nd rfl (Or.inl rfl) (pe_op op_add (pv 9) (pe_call (E := E0) G__law_ply (hr.mono (by decide)) rfl g__law_ply k__law_ply b__law_ply .nil pass0 (pa_cons (pv 0) (pa_cons (pe_op op_add (pe_op op_sub (pe_callB (call_min2 rfl) (by rfl) (B "min" (by decide)) (by decide +kernel) (pa_cons (pv 1) (pa_cons (pe_op op_mul pe_int (pv 3)) pa_nil))) (pv 9)) pe_int) pa_nil)))))
      (pss_cons (ps_if (pt_cmpR op_eq (pv 8) (pe_op op_sub (pv 7) pe_int) (nomark _)) (pss_one (ps_set (i := 10) scPln.nd rfl (Or.inl rfl) (pv 3))) pss_nil)
      (pss_cons (ps_expr (pe_bm PySem.F.plainAttrs_list PySem.F.slot_list_append PySem.F.type_list_append mt_append (pv 4) (pa_cons (pe_tup (pa_cons (pe_ix ix_list (pv 5) (pe_call (E := E0) G__law_ply (hr.mono (by decide)) rfl g__law_ply k__law_ply b__law_ply .nil pass0 (pa_cons (pv 0) (pa_cons pe_int pa_nil))) (fun _ _ => rfl)) (pa_cons (pe_call (E := E0) G__law_ply (hr.mono (by decide)) rfl g__law_ply k__law_ply b__law_ply .nil pass0 (pa_cons (pv 0) (pa_cons (pv 6) pa_nil))) (pa_cons (pe_call (E := E0) G__law_stitches (hr.mono (by decide)) rfl g__law_stitches k__law_stitches b__law_stitches .nil pass0 (pa_cons (pv 0) (pa_cons (pv 6) (pa_cons (pv 10) pa_nil)))) pa_nil)))) pa_nil)))
      (pss_one (ps_set (i := 6) scPln.nd rfl (Or.inl rfl) (pv 10))))))))
      (pss_one (ps_ret (pe_tup (pa_cons (pv 3) (pa_cons (pv 4) pa_nil))))))), ?_⟩
    have ty2 : sizeLine = 16777216 := sizeLine_eq
    refine ⟨_, rfl, _, rfl, c, most, bb, rfl, by omega, by omega, hc, by omega, fun d H1 d0 d1 cr1 b1 _ => ⟨_, _, rfl, rfl, ?_⟩⟩
    obtain ⟨sn, rfl⟩ := Int.eq_ofNat_of_zero_le d0
    obtain ⟨size, hsz⟩ : ∃ size : Nat, 1 + sn = size := ⟨_, rfl⟩
    refine ⟨by show 0 ≤ sizeLine; decide, fun Ld nL => ?_⟩
    have tL := same_new (o := .lst []) nL
    have eL := upd_same (H := H1) (a := Ld) (o := .lst [])
    have Lc := cr_ne cr1 nL
    have nL0 : H Ld = none := by
      cases e : H Ld with
      | none => rfl
      | some o =>
        have := b1 _ _ Lc e
        rw [nL] at this
        cases this
    generalize upd H1 Ld (.lst []) = H2 at tL eL
    have cr2 := cr1.same tL
    refine ⟨_, rfl, c, 2, _, rfl, by omega, cr2, by omega, fun Y H3 ys nY cr3 b3 eY yl yn => ?_⟩
    have Yc := cr_ne cr2 nY
    have YL : Ld ≠ Y := ne_none eL nY
    refine ⟨_, _, _, rfl, ?_⟩
    change Ys H3 Y ys at eY
    have eY4 := eY
    have eL4 := b3 _ _ Lc eL
    have cr4 := cr3
    have b4 := b1.trans ((Bt.of (c := c) tL).trans b3)
    dsimp only [gName, gCons, gNil, List.set]
    rw [show (1 : Int) + (sn : Int) = (size : Int) by omega]
    have s1 : 1 ≤ size := by omega
    have sm : size ≤ most := by omega
    clear eY eL tL hsz d0 d1 b3 cr3 cr2 b1 cr1 nL nY
    -- count, high
    dsimp only [tSeq]
    refine ⟨_, rfl, _, rfl, _, rfl, c, rm, _, rfl, by omega, by omega, cr4, by omega, fun d H5 d0 d1 cr5 b5 _ => ⟨_, _, rfl, rfl, _, _, rfl, ?_⟩⟩
    obtain ⟨hn, rfl⟩ := Int.eq_ofNat_of_zero_le d0
    obtain ⟨high, hhi⟩ : ∃ high : Nat, 1 + hn = high := ⟨_, rfl⟩
    have eY5 := b5 _ _ Yc eY4
    have eL5 := b5 _ _ Lc eL4
    have b05 := b4.trans b5
    dsimp only [gName, List.set, tSeq]
    rw [show (1 : Int) + (hn : Int) = (high : Int) by omega]
    have h1 : 1 ≤ high := by omega
    have hm : high ≤ rm := by omega
    clear hhi d0 d1 b5 b4 cr4 eY4 eL4
    refine ⟨_, rfl, (high : Int), rfl, by omega, by omega, ?_⟩
    rw [Int.toNat_natCast]
    refine for_range (lo := 0) (n := high) (fun i σ Hn => ∃ (xs : List V) (rs : List Rw) (count : Nat) (o8 o9 o10 : Option V), σ = [some (.ref c), some (.int most), some (.int rm), some (.int size), some (.ref Ld), some (.ref Y), some (.int count), some (.int high), o8, o9, o10] ∧ Hn Ld = some (.lst xs) ∧ Ys Hn Y ys ∧ DpAll K Hn xs (rs.map rwD) ∧ Rows size rs count ∧ rs.length = i ∧ (∀ x ∈ cnts size rs, 1 ≤ x ∧ x ≤ most) ∧ 1 ≤ count ∧ count ≤ most ∧ count ≤ 3 * size ∧ (i = high → count = size) ∧ CR Hn c (bb + 1010 + 1010 * i) ∧ Bt c H Hn)
      ⟨[], [], size, _, _, _, rfl, eL5, eY5, .nil, rfl, rfl, fun x m => by rw [List.mem_singleton.mp m]; exact ⟨s1, sm⟩, s1, sm, by omega, fun _ => rfl, cr5.mono (by omega), b05⟩ (fun i σ Hn hi hI => ?_) (fun σ Hn hI => ?_)
    · obtain ⟨xs, rs, count, o8, o9, o10, rfl, eL, eY, dx, rr, rl, cc, n1, n2, n3, n4, cn, bn⟩ := hI
      have xl := dps_len dx
      rw [List.length_map] at xl
      dsimp only [gName, List.set, tSeq]
      refine ⟨_, rfl, _, _, rfl, rfl, _, _, rfl, rfl, wide_div (b := 2) (by decide) (by decide) (by decide) (by decide), ?_⟩
      dsimp only
      rw [show ((count : Int) + 2) / 3 = (((count + 2) / 3 : Nat) : Int) by omega]
      obtain ⟨low, hlow⟩ : ∃ low, (count + 2) / 3 = low := ⟨_, rfl⟩
      rw [hlow]
      dsimp only [gName, List.set]
      refine ⟨_, rfl, _, rfl, _, rfl, _, rfl, _, _, rfl, rfl, .inl ⟨by decide, by decide⟩, _, _, rfl, ?_⟩
      dsimp only
      have mn : (if 3 * (size : Int) < (most : Int) then 3 * (size : Int) else (most : Int)) = ((min most (3 * size) : Nat) : Int) := by
        split <;> omega
      rw [mn]
      refine ⟨_, rfl, _, _, rfl, rfl, _, _, rfl, rfl, c, _, _, rfl, by omega, by omega, cn, by omega, fun d H6 d0 d1 cr6 b6 _ => ⟨_, _, rfl, rfl, ?_⟩⟩
      obtain ⟨dn, rfl⟩ := Int.eq_ofNat_of_zero_le d0
      dsimp only [gName, List.set]
      rw [show (low : Int) + (dn : Int) = ((low + dn : Nat) : Int) by omega]
      have eL6 := b6 _ _ Lc eL
      have eY6 := b6 _ _ Yc eY
      have dx6 := dps_tl (Tl.bt cn b6) (noLs_rws rs) dx
      have bn6 := bn.trans b6
      dsimp only [tSeq]
      -- the due one
      refine stJ (fun σ Hm => ∃ due : Nat, σ = [some (.ref c), some (.int most), some (.int rm), some (.int size), some (.ref Ld), some (.ref Y), some (.int count), some (.int high), some (.int (0 + (i : Int))), some (.int low), some (.int due)] ∧ Hm = H6 ∧ 1 ≤ due ∧ due ≤ most ∧ due ≤ 3 * size ∧ low ≤ due ∧ (i + 1 = high → due = size)) (fun D' aft => ?_) ?_
      · refine ⟨_, rfl, _, rfl, _, _, rfl, rfl, rfl, _, rfl, ?_⟩
        by_cases q : i + 1 = high
        · refine LK.ifT (decide_eq_true (congrArg V.int (by omega))) ?_
          exact ⟨_, rfl, aft _ _ ⟨size, rfl, rfl, s1, sm, by omega, by omega, fun _ => rfl⟩⟩
        · refine LK.ifF (decide_eq_false fun e => q (by have := V.int.inj e; omega)) ?_
          exact aft _ _ ⟨low + dn, rfl, rfl, by omega, by omega, by omega, by omega, fun z => absurd z q⟩
      rintro σ Hm ⟨due, rfl, rfl, u1, u2, u3, u4, u5⟩
      dsimp only [tSeq]
      refine ⟨_, rfl, .inl ⟨rfl, _, SqL.of eL6⟩, ?_⟩
      refine ⟨_, rfl, _, rfl, c, 2, _, rfl, by decide, by decide, cr6, by omega, fun q H7 q0 q1 cr7 b7 _ => ?_⟩
      obtain ⟨qn, rfl⟩ := Int.eq_ofNat_of_zero_le q0
      obtain ⟨y, hy⟩ : ∃ y, ys[qn]? = some y := ⟨_, List.getElem?_eq_getElem (by omega)⟩
      have eY7 := b7 _ _ Yc eY6
      change H7 Y = some (.lst (ys.map V.str)) at eY7
      refine ⟨Y, _, _, .str y, rfl, rfl, SqL.of eY7, atI_nat (by rw [List.getElem?_map, hy]; rfl), ?_⟩
      refine ⟨_, rfl, _, rfl, c, count, _, rfl, by omega, by omega, cr7, by omega, fun o H8 o0 o1 cr8 b8 _ => ?_⟩
      obtain ⟨on, rfl⟩ := Int.eq_ofNat_of_zero_le o0
      refine ⟨_, rfl, _, rfl, _, rfl, c, count, due, _, rfl, n1, by omega, u1, by omega, by omega, cr8, by omega, fun w H9 ws ss cr9 b9 ew dw okw => ?_⟩
      have b79 := (b7.trans b8).trans b9
      refine ⟨by show 3 ≤ sizeLine; decide, fun v nv => ?_⟩
      have tv := same_new (o := .tup [.str y, .int (on : Int), .ref w]) nv
      have eL9 := tv _ _ (b79 _ _ Lc eL6)
      have dx9 := dps_same tv (dps_tl (Tl.bt cr6 b79) (noLs_rws rs) dx6)
      refine ⟨Ld, _, _, rfl, rfl, eL9, by omega, ?_⟩
      have ok : OkRow count ⟨y, on, ss⟩ := ⟨yn y (List.mem_of_getElem? hy), by show on < count; omega, ⟨okw.tk, rfl, okw.ok⟩⟩
      refine ⟨_, rfl, xs ++ [.ref v], rs ++ [⟨y, on, ss⟩], due, _, _, _, rfl, upd_same, ?_, ?_, rows_app (qs := [⟨y, on, ss⟩]) rr ⟨ok, okw.dr⟩, by rw [List.length_append, rl]; rfl, fun x m => ?_, u1, u2, u3, u5, ((cr9.same tv).upd Lc).mono (by omega), fun b o n e => ?_⟩
      · unfold Ys
        rw [upd_ne (Ne.symm YL)]
        exact tv _ _ (b9 _ _ Yc (b8 _ _ Yc eY7))
      · rw [List.map_append]
        refine dps_tl (Tl.own eL9) (by rw [← List.map_append]; exact noLs_rws _) (dps_app dx9 (.cons (.tup (SqT.of upd_same) (.cons (.str _) (.cons (.int _) (.cons (.tup (SqT.of (tv _ _ ew)) (dps_same tv dw)) .nil)))) .nil))
      · rw [cnts_app] at m
        rcases List.mem_append.mp m with m | m
        · exact cc x m
        · rw [List.mem_singleton.mp m]
          show 1 ≤ drs ss ∧ drs ss ≤ most
          rw [okw.dr]
          exact ⟨u1, u2⟩
      · rw [upd_ne (ne_none e nL0)]
        exact tv _ _ (b79 _ _ n (bn6 _ _ n e))
    · obtain ⟨xs, rs, count, o8, o9, o10, rfl, eL, eY, dx, rr, rl, cc, n1, n2, n3, n4, cn, bn⟩ := hI
      obtain rfl := n4 rfl
      refine ⟨_, rfl, _, rfl, by show 2 ≤ sizeLine; decide, fun q nq => ?_⟩
      have tq := same_new (o := .tup [.int (count : Int), .ref Ld]) nq
      exact k q Ld _ xs count rs ((cn.same tq).mono (by omega)) (bn.trans (Bt.of tq)) ⟨upd_same, tq _ _ eL, dps_same tq dx, rr⟩ cc (by omega) (by omega) nL0 Lc
end
end S8
/-! stitches and rows -/
namespace S8
open PySem PySem.Spec PyProof.Rows L2 LK MY MZ
theorem yn_thr {y : Str} (h : Yn y) : isThrD (.str y) = true := by
  obtain ⟨y1, y2, y3⟩ := h
  show (decide (1 ≤ y.length ∧ y.length ≤ 8) && y.cps.toList.all fun c => decide (97 ≤ c ∧ c ≤ 122)) = true
  rw [decide_eq_true ⟨y1, y2⟩, Bool.true_and, List.all_eq_true]
  exact fun c hc => decide_eq_true (y3 c hc)
theorem yn_lay {y : Str} (h : Yn y) : (PyData.str y).canLay0 = true := by
  show y.cps.all (· < 0x110000) = true
  rw [Array.all_eq_true_iff_forall_mem]
  intro c hc
  have := (h.2.2 c (Array.mem_toList_iff.mpr hc)).2
  exact decide_eq_true (by omega)
theorem st_tup {K : PySem.W.Frag} {H : Hp} {v : V} {s : Sti} (h : Dp K H v (stD s)) : ∃ a, v = .ref a ∧ SqT K H a [.int (s.1 : Int), .int (s.2 : Int)] := by
  cases h with
  | tup q r =>
    obtain rfl := ints_back (ns := [(s.1 : Int), (s.2 : Int)]) r
    exact ⟨_, rfl, q⟩
theorem sum_tks : ∀ ss : List Sti, (ss.map fun s => (s.1 : Int)).sum = ((tks ss : Nat) : Int)
  | [] => rfl
  | s :: r => by
    have := sum_tks r
    unfold tks at this ⊢
    rw [List.map_cons, List.sum_cons, List.map_cons, List.sum_cons, this]
    omega
theorem sum_drs : ∀ ss : List Sti, (ss.map fun s => (s.2 : Int)).sum = ((drs ss : Nat) : Int)
  | [] => rfl
  | s :: r => by
    have := sum_drs r
    unfold drs at this ⊢
    rw [List.map_cons, List.sum_cons, List.map_cons, List.sum_cons, this]
    omega
/-- a right stitch -/
def spIst (K : PySem.W.Frag) : Sp := fun vs H Q _ => ∃ (v : V) (s : Sti), vs = [v] ∧ Dp K H v (stD s) ∧ s.1 ≤ 3 ∧ 1 ≤ s.2 ∧ s.2 ≤ 3 ∧ ∀ H', Same H H' → Q (.bl true) H'
/-- a right row -/
def spIcr (K : PySem.W.Frag) : Sp := fun vs H Q _ => ∃ (v : V) (c : Nat) (r : Rw), vs = [v, .int c] ∧ Dp K H v (rwD r) ∧ OkRow c r ∧ r.sts.length ≤ 1000 ∧ ∀ H', Same H H' → Q (.bl true) H'
section
variable {P : Program} {w : World} {K : PySem.W.Frag} {mg : Str → Option Value} {base : Heap}
abbrev sIst : Stmt := top 31
theorem scIst : FnScope ["value", "part"] ["value"] (defScope sIst) := ⟨rfl, rfl, rfl, by decide +kernel, rfl, by decide +kernel, by decide +kernel⟩
theorem ok_Ist {f : Addr} {fd : FuncData} (F : Fun K "is_stitch" "is_stitch" sIst f fd) (B : Bl mg) {tM : Tok} (g_MOST_IN_STITCH : mg "MOST_IN_STITCH" = some (.int 3 tM))
    {f_is_number : Addr} {d_is_number : FuncData} (G_is_number : FnOk P w K mg base CX0 2 f_is_number d_is_number ["value", "many"] (spNum K)) (g_is_number : mg "is_number" = some (.ref f_is_number)) (k_is_number : PySem.W.keepIn K (.ref f_is_number) = true) (b_is_number : Binds K d_is_number ["value", "many"] []) : FnOk P w K mg base CX0 3 f fd ["value"] (spIst K) := by
  refine F.ok scIst (fun vs H Q E h => ?_) (fun cdv A outer s H vs Q E hr h => ?_)
  · obtain ⟨v, s, rfl, _⟩ := h
    rfl
  · obtain ⟨v, s, rfl, hv, s1, s2, s3, k⟩ := h
    refine ⟨_, pss_cons (ps_if (pt_val (pe_callB call_isi (by rfl) (B "isinstance" (by decide)) (by decide +kernel) (pa_cons (pv 0) (pa_cons (pe_bltn (v := .ty "str") rfl (B "str" (by decide)) (by decide +kernel) rfl) pa_nil)))) (pss_never) pss_nil)
      (pss_cons (ps_if (PW.pt (pw_or (pt_not (pt_val (pe_callB call_isi (by rfl) (B "isinstance" (by decide)) (by decide +kernel) (pa_cons (pv 0) (pa_cons (pe_bltn (v := .ty "tuple") rfl (B "tuple" (by decide)) (by decide +kernel) rfl) pa_nil))))) (pw_or1 (pt_cmpR op_ne (pe_callB call_len_seq (by rfl) (B "len" (by decide)) (by decide +kernel) (pa_cons (pv 0) pa_nil)) pe_int (nomark _))))) (pss_one (ps_ret pe_bl)) pss_nil)
      (pss_one (ps_ret (pe_and (pe_cmpR (op_neD hr.units) (pv 0) (pe_tup (pa_cons pe_int (pa_cons pe_int pa_nil))) (nomark _)) (pe_one (pe_callB (cr_all rfl) (by rfl) (B "all" (by decide)) (by decide +kernel) (pa_cons (pe_lc (own := [("part", 1)]) (g := gName 1) (tt := tYes) rfl scIst.nd (pi_tup (pv 0)) (blkOk_by (N := ["value", "part"]) (sc := defScope sIst) (by decide +kernel)) (fun _ _ _ _ _ => pg_name (i := 1) scIst.nd rfl (Or.inl rfl)) (fun _ _ _ _ _ => pts_nil) (fun _ _ _ _ _ => pe_call (E := E0) G_is_number (hr.mono (by decide)) rfl g_is_number k_is_number b_is_number .nil pass0 (pa_cons (pv 1) (pa_cons (pe_op op_add (pe_glob (v := .int 3) rfl g_MOST_IN_STITCH ⟨_, rfl⟩) pe_int) pa_nil)))) pa_nil))))))), ?_⟩
    refine ⟨_, rfl, _, _, _, _, _, rfl, .ty "str", dp_ty hv, kit_d hv "str" (by decide), _, rfl, LK.ifF rfl ?_⟩
    obtain ⟨a, xs, rfl, hs, dx⟩ : ∃ (a : Addr) (xs : List V), v = .ref a ∧ SqT K H a xs ∧ DpAll K H xs [.int (s.1 : Int), .int (s.2 : Int)] := by
      cases hv with
      | tup q r => exact ⟨_, _, rfl, q, r⟩
    obtain rfl := ints_back (ns := [(s.1 : Int), (s.2 : Int)]) dx
    dsimp only [tSeq]
    refine ⟨_, rfl, _, _, _, _, _, rfl, .ty "tuple", dp_ty hv, kit_d hv "tuple" (by decide), _, rfl, LK.ifF rfl ?_⟩
    refine ⟨_, rfl, a, _, rfl, .inr hs, rfl, _, rfl, LK.ifF rfl ?_⟩
    dsimp only [tSeq]
    refine ⟨_, rfl, by show 2 ≤ sizeLine; decide, fun t nt => ?_⟩
    have t1 := same_new (o := .tup [.int 0, .int 0]) nt
    refine ⟨stD s, stD (0, 0), dp_same t1 hv, .tup (SqT.of upd_same) (.cons (.int _) (.cons (.int _) .nil)), rfl, rfl, _, rfl, ?_⟩
    have ne : PyData.eqv (stD s) (stD (0, 0)) = false := by
      show (PyData.eqv (.int (s.1 : Int)) (.int 0) && (PyData.eqv (.int (s.2 : Int)) (.int 0) && true)) = false
      have : PyData.eqv (.int (s.2 : Int)) (.int 0) = false := by
        show decide ((s.2 : Int) = 0) = false
        exact decide_eq_false (by omega)
      rw [this]
      simp
    refine LK.ifT (by rw [ne]; rfl) ?_
    have hs1 := same_tup t1 hs
    refine ⟨_, rfl, a, rfl, ⟨_, hs1⟩, fun D nD => ?_⟩
    refine lcf_tup (ns := [(s.1 : Int), (s.2 : Int)]) (c := V.int) (fun _ => true) (fun _ => V.bl true) hs1 nD (by show 2 ≤ 1000000; decide) (fun i x H1 yes no hx s4 y n => ⟨rfl, ?_⟩) (fun H1 s4 eD => ?_)
    · have x3 : 0 ≤ x ∧ x < 4 := by
        rcases List.mem_cons.mp (List.mem_of_getElem? hx) with rfl | m
        · omega
        · rw [List.mem_singleton.mp m]
          omega
      refine ⟨_, rfl, _, _, rfl, rfl, _, _, _, rfl, .int x, fun H2 s5 => ?_⟩
      rw [isNumD, show decide (0 ≤ x ∧ x < 3 + 1) = true from decide_eq_true x3]
      exact y rfl _ s5
    refine ⟨D, _, rfl, SqL.of (show H1 D = some (.lst ([true, true].map V.bl)) from eD), ?_⟩
    exact k _ (t1.trans s4)
abbrev sIcs : Stmt := top 33
theorem scIcs : FnScope ["value"] ["value"] (defScope sIcs) := ⟨rfl, rfl, rfl, by decide +kernel, rfl, by decide +kernel, by decide +kernel⟩
theorem ok_Ics {f : Addr} {fd : FuncData} (F : Fun K "is_chart_stitch" "is_chart_stitch" sIcs f fd) (B : Bl mg)
    {f_is_stitch : Addr} {d_is_stitch : FuncData} (G_is_stitch : FnOk P w K mg base CX0 3 f_is_stitch d_is_stitch ["value"] (spIst K)) (g_is_stitch : mg "is_stitch" = some (.ref f_is_stitch)) (k_is_stitch : PySem.W.keepIn K (.ref f_is_stitch) = true) (b_is_stitch : Binds K d_is_stitch ["value"] []) : FnOk P w K mg base CX0 4 f fd ["value"] (spIst K) := by
  refine F.ok scIcs (fun vs H Q E h => ?_) (fun cdv A outer s H vs Q E hr h => ?_)
  · obtain ⟨v, s, rfl, _⟩ := h
    rfl
  · obtain ⟨v, s, rfl, hv, s1, s2, s3, k⟩ := h
    refine ⟨_, pss_one (ps_ret (pe_and (pe_callB call_isi (by rfl) (B "isinstance" (by decide)) (by decide +kernel) (pa_cons (pv 0) (pa_cons (pe_bltn (v := .ty "tuple") rfl (B "tuple" (by decide)) (by decide +kernel) rfl) pa_nil))) (pe_and (pe_call (E := E0) G_is_stitch (hr.mono (by decide)) rfl g_is_stitch k_is_stitch b_is_stitch .nil pass0 (pa_cons (pv 0) pa_nil)) (pe_one (pe_cmpR op_gt (pe_ix (ixt (K := K)) (pv 0) pe_int (fun _ _ => rfl)) pe_int (nomark _)))))), ?_⟩
    refine ⟨_, rfl, _, _, _, _, _, rfl, .ty "tuple", dp_ty hv, kit_d hv "tuple" (by decide), _, rfl, LK.ifT rfl ?_⟩
    refine ⟨_, rfl, v, s, rfl, hv, s1, s2, s3, fun H1 e1 => ⟨_, rfl, LK.ifT rfl ?_⟩⟩
    obtain ⟨a, xs, rfl, hs, dx⟩ : ∃ (a : Addr) (xs : List V), v = .ref a ∧ SqT K H a xs ∧ DpAll K H xs [.int (s.1 : Int), .int (s.2 : Int)] := by
      cases hv with
      | tup q r => exact ⟨_, _, rfl, q, r⟩
    obtain rfl := ints_back (ns := [(s.1 : Int), (s.2 : Int)]) dx
    refine ⟨_, rfl, a, _, 1, _, rfl, rfl, same_tup e1 hs, atI_nat (j := 1) rfl, _, _, rfl, rfl, ?_⟩
    show Q (.bl (decide ((0 : Int) < (s.2 : Int)))) H1
    rw [decide_eq_true (by omega)]
    exact k H1 e1
abbrev sIcr : Stmt := top 34
theorem scIcr : FnScope ["value", "count", "thread", "offset", "stitches", "stitch", "taken", "_"] ["value", "count"] (defScope sIcr) := ⟨rfl, rfl, rfl, by decide +kernel, rfl, by decide +kernel, by decide +kernel⟩
theorem ok_Icr {f : Addr} {fd : FuncData} (F : Fun K "is_chart_row" "is_chart_row" sIcr f fd) (B : Bl mg)
    {f_is_thread : Addr} {d_is_thread : FuncData} (G_is_thread : FnOk P w K mg base CX0 1 f_is_thread d_is_thread ["value"] (spThr K)) (g_is_thread : mg "is_thread" = some (.ref f_is_thread)) (k_is_thread : PySem.W.keepIn K (.ref f_is_thread) = true) (b_is_thread : Binds K d_is_thread ["value"] [])
    {f_is_number : Addr} {d_is_number : FuncData} (G_is_number : FnOk P w K mg base CX0 2 f_is_number d_is_number ["value", "many"] (spNum K)) (g_is_number : mg "is_number" = some (.ref f_is_number)) (k_is_number : PySem.W.keepIn K (.ref f_is_number) = true) (b_is_number : Binds K d_is_number ["value", "many"] [])
    {f_is_chart_stitch : Addr} {d_is_chart_stitch : FuncData} (G_is_chart_stitch : FnOk P w K mg base CX0 4 f_is_chart_stitch d_is_chart_stitch ["value"] (spIst K)) (g_is_chart_stitch : mg "is_chart_stitch" = some (.ref f_is_chart_stitch)) (k_is_chart_stitch : PySem.W.keepIn K (.ref f_is_chart_stitch) = true) (b_is_chart_stitch : Binds K d_is_chart_stitch ["value"] []) : FnOk P w K mg base CX0 5 f fd ["value", "count"] (spIcr K) := by
  refine F.ok scIcr (fun vs H Q E h => ?_) (fun cdv A outer s H vs Q E hr h => ?_)
  · obtain ⟨v, c, r, rfl, _⟩ := h
    rfl
  · obtain ⟨v, c, r, rfl, hv, ok, rl, k⟩ := h
    refine ⟨_, pss_cons (ps_if (PW.pt (pw_or (pt_not (pt_val (pe_callB call_isi (by rfl) (B "isinstance" (by decide)) (by decide +kernel) (pa_cons (pv 0) (pa_cons (pe_bltn (v := .ty "tuple") rfl (B "tuple" (by decide)) (by decide +kernel) rfl) pa_nil))))) (pw_or1 (pt_cmpR op_ne (pe_callB call_len_seq (by rfl) (B "len" (by decide)) (by decide +kernel) (pa_cons (pv 0) pa_nil)) pe_int (nomark _))))) (pss_one (ps_ret pe_bl)) pss_nil)
      (pss_cons (ps_asg (pv 0) (pg_tup rfl (pgs_cons (pg_name (i := 2) scIcr.nd rfl (Or.inl rfl)) (pgs_cons (pg_name (i := 3) scIcr.nd rfl (Or.inl rfl)) (pgs_cons (pg_name (i := 4) scIcr.nd rfl (Or.inl rfl)) pgs_nil)))))
      (pss_cons (ps_if (PW.pt (pw_or (pt_not (pt_val (pe_call (E := E0) G_is_thread (hr.mono (by decide)) rfl g_is_thread k_is_thread b_is_thread .nil pass0 (pa_cons (pv 2) pa_nil)))) (pw_or (pt_not (pt_val (pe_call (E := E0) G_is_number (hr.mono (by decide)) rfl g_is_number k_is_number b_is_number .nil pass0 (pa_cons (pv 3) (pa_cons (pv 1) pa_nil))))) (pw_or1 (pt_not (pt_val (pe_callB call_isi (by rfl) (B "isinstance" (by decide)) (by decide +kernel) (pa_cons (pv 4) (pa_cons (pe_bltn (v := .ty "tuple") rfl (B "tuple" (by decide)) (by decide +kernel) rfl) pa_nil))))))))) (pss_one (ps_ret pe_bl)) pss_nil)
      (pss_cons (ps_if (pt_not (pt_val (pe_callB (cr_all rfl) (by rfl) (B "all" (by decide)) (by decide +kernel) (pa_cons (pe_lc (own := [("stitch", 5)]) (g := gName 5) (tt := tYes) rfl scIcr.nd (pi_tup (pv 4)) (blkOk_by (N := ["value", "count", "thread", "offset", "stitches", "stitch", "taken", "_"]) (sc := defScope sIcr) (by decide +kernel)) (fun _ _ _ _ _ => pg_name (i := 5) scIcr.nd rfl (Or.inl rfl)) (fun _ _ _ _ _ => pts_nil) (fun _ _ _ _ _ => pe_call (E := E0) G_is_chart_stitch (hr.mono (by decide)) rfl g_is_chart_stitch k_is_chart_stitch b_is_chart_stitch .nil pass0 (pa_cons (pv 5) pa_nil))) pa_nil)))) (pss_one (ps_ret pe_bl)) pss_nil)
      (pss_one (ps_ret (pe_cmpR op_eq (pe_callB (cr_sum rfl) (by rfl) (B "sum" (by decide)) (by decide +kernel) (pa_cons (pe_lc (own := [("taken", 6), ("_", 7)]) (g := (gTup K 2 (gCons (gName 6) (gCons (gName 7) gNil)))) (tt := tYes) rfl scIcr.nd (pi_tup (pv 4)) (blkOk_by (N := ["value", "count", "thread", "offset", "stitches", "stitch", "taken", "_"]) (sc := defScope sIcr) (by decide +kernel)) (fun _ _ _ _ _ => pg_tup rfl (pgs_cons (pg_name (i := 6) scIcr.nd rfl (Or.inl rfl)) (pgs_cons (pg_name (i := 7) scIcr.nd rfl (Or.inl rfl)) pgs_nil))) (fun _ _ _ _ _ => pts_nil) (fun _ _ _ _ _ => pv 6)) pa_nil)) (pv 1) (nomark _))))))), ?_⟩
    have ty2 : sizeLine = 16777216 := sizeLine_eq
    obtain ⟨a, xs, rfl, hs, dx⟩ : ∃ (a : Addr) (xs : List V), v = .ref a ∧ SqT K H a xs ∧ DpAll K H xs [.str r.nm, .int (r.off : Int), .tuple (r.sts.map stD)] := by
      cases hv with
      | tup q r => exact ⟨_, _, rfl, q, r⟩
    obtain ⟨b, ws, rfl, hw, dw⟩ : ∃ (b : Addr) (ws : List V), xs = [.str r.nm, .int (r.off : Int), .ref b] ∧ SqT K H b ws ∧ DpAll K H ws (r.sts.map stD) := by
      cases dx with
      | cons d1 dx =>
        cases d1
        cases dx with
        | cons d2 dx =>
          cases d2
          cases dx with
          | cons d3 dx =>
            cases dx
            cases d3 with
            | tup q r => exact ⟨_, _, rfl, q, r⟩
    have wl := dps_len dw
    rw [List.length_map] at wl
    refine ⟨_, rfl, _, _, _, _, _, rfl, .ty "tuple", dp_ty hv, kit_d hv "tuple" (by decide), _, rfl, LK.ifF rfl ?_⟩
    refine ⟨_, rfl, a, _, rfl, .inr hs, rfl, _, rfl, LK.ifF rfl ?_⟩
    dsimp only [tSeq]
    refine ⟨_, rfl, a, _, rfl, hs, rfl, ?_⟩
    refine ⟨_, _, rfl, _, _, rfl, _, _, rfl, rfl, ?_⟩
    dsimp only [gName, gCons, gNil, List.set, tSeq]
    obtain ⟨y1, y2, y3⟩ := ok.nm
    have yt : tame (.str r.nm) = true := decide_eq_true (by omega)
    refine ⟨_, rfl, .str r.nm, .str r.nm, rfl, .str _, yt, yn_lay ok.nm, fun H1 s1 => ⟨_, rfl, ?_⟩⟩
    rw [yn_thr ok.nm]
    refine LK.ifF rfl ?_
    refine ⟨_, rfl, _, rfl, _, _, _, rfl, .int _, fun H2 s2 => ⟨_, rfl, ?_⟩⟩
    rw [show isNumD (c : Int) (.int (r.off : Int)) = true by rw [isNumD]; exact decide_eq_true ⟨by omega, by have := ok.off; omega⟩]
    refine LK.ifF rfl ?_
    have s12 := s1.trans s2
    have db : Dp K H (.ref b) (.tuple (r.sts.map stD)) := .tup hw dw
    refine ⟨_, rfl, _, _, _, _, _, rfl, .ty "tuple", dp_ty (dp_same s12 db), kit_d (dp_same s12 db) "tuple" (by decide), _, rfl, LK.ifF rfl ?_⟩
    -- all stitches
    have hw2 := same_tup s12 hw
    have ez : (ws.zip r.sts).map (fun z => z.1) = ws := by rw [show (fun z : V × Sti => z.1) = Prod.fst from rfl, List.map_fst_zip (by omega)]
    refine ⟨_, rfl, b, rfl, ⟨_, by rw [← ez] at hw2; exact hw2⟩, fun D nD => ?_⟩
    refine lcf_tup (ns := ws.zip r.sts) (c := fun z : V × Sti => z.1) (fun _ => true) (fun _ => V.bl true) (by rw [ez]; exact hw2) nD (by rw [List.length_zip]; omega) (fun i z H3 yes no hz s3 y n => ⟨rfl, ?_⟩) (fun H3 s3 eD => ?_)
    · obtain ⟨z1, z2⟩ := List.getElem?_zip_eq_some.mp hz
      obtain ⟨k1, k2, k3⟩ := ok.sts.ok z.2 (List.mem_of_getElem? z2)
      refine ⟨_, rfl, z.1, z.2, rfl, dp_same (s12.trans s3) (dps_get dw z1 (by rw [List.getElem?_map, z2]; rfl)), k1, k2, k3, fun H4 s4 => y rfl _ s4⟩
    have tr : ((ws.zip r.sts).filter fun _ => true).map (fun _ => V.bl true) = (List.replicate r.sts.length true).map V.bl := by
      rw [List.filter_eq_self.mpr (fun _ _ => rfl), List.map_const', List.length_zip, List.map_replicate]
      congr 1
      omega
    rw [tr] at eD
    refine ⟨D, _, rfl, SqL.of eD, ?_⟩
    refine ⟨_, rfl, ?_⟩
    rw [show (List.replicate r.sts.length true).all id = true by simp]
    refine LK.ifF rfl ?_
    -- the sum
    have s03 := s12.trans s3
    have hw3 := same_tup s03 hw
    refine ⟨_, rfl, b, rfl, ⟨_, by rw [← ez] at hw3; exact hw3⟩, fun M nM => ?_⟩
    refine lcf_tup (ns := ws.zip r.sts) (c := fun z : V × Sti => z.1) (fun _ => true) (fun z => V.int (z.2.1 : Int)) (by rw [ez]; exact hw3) nM (by rw [List.length_zip]; omega) (fun i z H4 yes no hz s4 y n => ?_) (fun H4 s4 eM => ?_)
    · obtain ⟨z1, z2⟩ := List.getElem?_zip_eq_some.mp hz
      obtain ⟨q, e1, q1⟩ := st_tup (dp_same (s03.trans s4) (dps_get dw z1 (by rw [List.getElem?_map, z2]; rfl)))
      rw [e1]
      refine ⟨q, _, rfl, q1, rfl, _, _, rfl, _, _, rfl, rfl, rfl, ?_⟩
      exact ⟨_, rfl, y rfl _ (Same.refl _)⟩
    have tm : ((ws.zip r.sts).filter fun _ => true).map (fun z => V.int (z.2.1 : Int)) = (r.sts.map fun s => (s.1 : Int)).map V.int := by
      rw [List.filter_eq_self.mpr (fun _ _ => rfl), List.map_map]
      conv => rhs; rw [← List.map_snd_zip (l₁ := ws) (l₂ := r.sts) (by omega), List.map_map]
      rfl
    rw [tm] at eM
    refine ⟨M, _, rfl, SqL.of eM, ?_⟩
    rw [sum_tks, ok.sts.tk]
    refine ⟨_, rfl, rfl, ?_⟩
    have := k H4 (s03.trans s4)
    simpa using this
end
end S8
/-! try: .. with several clauses `except C as n`, one name for all of them. -/
namespace L2N
open PySem PySem.Spec PyProof.Rows L2
/-- a clause: its class, its suite's reading by the error's address, class and dict -/
abbrev Cls1 := Value × (Addr → Value → Option Addr → TS)
def fall (i : Nat) (D : Ends) : Ends := ⟨fun τ G => D.nx (τ.set i none) G, D.rt, fun τ G => D.bk (τ.set i none) G, fun τ G => D.ct (τ.set i none) G⟩
def wL (K : PySem.W.Frag) (i : Nat) (out : WX) (D : Ends) : List Cls1 → WX
  | [] => out
  | p :: rest => fun k d σ H => ∃ hit, PySem.W.exmOne K k p.1 = some hit ∧
    (hit = true → ∀ e, H e = none → p.2 e k d (fall i D) (σ.set i (some (.ref e))) H) ∧ (hit = false → wL K i out D rest k d σ H)
inductive AsL (X : Cx) (n : Str) : List ExceptHandler → List Cls1 → Prop
  | nil : AsL X n [] []
  | cons {y : Str} {p : Cls1} {st : Stmt} {more : List Stmt} {q1 q2 : Pos} {tail : List ExceptHandler} {rest : List Cls1} (named : Names X y p.1)
      (suite : ∀ (e : Addr) (o : Obj) (k : Value) (d : Option Addr) (held : List (Addr × Obj)), Zn k d o → (∃ fs, o.data = .fields fs) → PSs (X.suite e ((e, o) :: held)) (st :: more) (p.2 e k d)) (more_ : AsL X n tail rest) :
      AsL X n (.ExceptHandler (some (.Name y q1)) (some n) (st :: more) q2 :: tail) (p :: rest)
section
variable {X : Cx} {n : Str} {i : Nat} {body : List Stmt} {c1 : ExceptHandler} {cs : List ExceptHandler} {l : List Cls1} {pos : Pos} {tb : WX → TS} {out : WX}
theorem ps_try_asL (top : X.stack = X.env :: X.outer) (own : X.env.frame = some X.env.locals) (nd : X.N.Nodup) (at_ : X.N[i]? = some n) (lc : X.env.kindOf n = some .local) (tk : Takes X out)
    (hb : ∀ (W : WX) (held : List (Addr × Obj)) (xe : Value → Shared → Prop), Takes (X.tr held xe) W → PassesOwn (model X.prog X.w) X.A X.env xe → PSs (X.tr held xe) body (tb W))
    (clauses : AsL X n (c1 :: cs) l) : PS X (.Try body (c1 :: cs) [] [] pos) (fun D σ H => tb (wL X.K i out D l) D σ H) := by
  constructor
  intro pins s σ H D I want
  have sound := I.ok
  have frames : X.A.frames = some (X.env :: X.outer) := by
    rw [sound.frames, top]
  have place : Loc X.env.scope n := .inl lc
  apply wpAny_Try_except
  refine wpAny_mono ((hb (wL X.K i out D l) (X.pn ++ pins) _ (fun err s' flying => ?_) PassesOwn.looking).run [] s σ H D (I.toTry _) want) (fun flow s1 done => ?_) (fun _ _ z => z)
  case refine_1 =>
    rcases flying with ⟨e, B, sI, pins2, τ, G, k, d, rfl, J2, nb, up, sky, ne, os, bare, wish⟩
    have J : Inv X pins τ G sI := J2.ofTry sound
    rw [top] at sky
    show wpAny (model X.prog X.w) X.A (noteFrame (.ref e) X.env) _ _ _
    refine Sky.land Zn.steady frames own sky fun g3 landed up3 => ?_
    have J3 : Inv X pins τ G { s' with heap := g3 } := J.landed nb landed.1 (up.trans up3) os bare
    rcases landed.there with ⟨o3, f3, here3, z3, data3⟩
    have apart : e ∉ frs (X.env :: X.outer) := fun inn => by
      rcases landed.2.2.1.mem inn with ⟨_, o', here', no⟩
      rw [here3] at here'
      cases here'
      exact no _ data3
    have notL : e ≠ X.env.locals := fun z => apart (List.mem_filterMap.mpr ⟨X.env, List.mem_cons_self, by rw [own, z]⟩)
    have notF : e ∉ X.fs := fun inn => by
      rcases List.mem_filterMap.mp inn with ⟨v, hv, q⟩
      exact apart (List.mem_filterMap.mpr ⟨v, List.mem_cons_of_mem _ hv, q⟩)
    have suite3 := J3.suite here3 data3 ne notL notF
    have walk : ∀ {hs : List ExceptHandler} {m : List Cls1}, AsL X n hs m → wL X.K i out D m k d τ G → wpAny (model X.prog X.w) X.A (handleBy (.ref e) X.env hs) (SP X pins D) X.xe { s' with heap := g3 } := by
      intro hs m ok
      induction ok with
      | nil =>
        intro leaves
        apply wpAny_handleBy_nil
        rcases id landed with ⟨_, _, _, oe, fs, T, oT, _, here, _, data, one, _⟩
        unfold PySem.passOn
        refine wpAny_bind (wpAny_field here data one ?_)
        rw [if_neg (show ¬ ((Value.ref T == Value.none) = true) from by simp)]
        have off : wpAny (model X.prog X.w) X.A (setFlight (.ref e) X.env.frame) (fun _ s4 => wpAny (model X.prog X.w) X.A (throw (.ref e) : Sem Flow) (SP X pins D) X.xe s4) X.xe { s' with heap := g3 } := by
          rw [own]
          refine HandSPX.setFlight_upZ landed fun g4 hop up4 => wpAny_throw (tk _ _ ?_)
          exact ⟨e, B, sI, pins, τ, G, k, d, rfl, J, nb, (up.trans up3).trans up4, .inr (.inr (by rw [top]; exact hop)), ne, os, bare, leaves⟩
        first
          | exact wpAny_bind (wpAny_pure (wpAny_bind off))
          | exact wpAny_bind off
      | @cons y p st more q1 q2 tail rest named suite r ih =>
        rintro ⟨hit, known, yes, no⟩
        refine wpAny_handleBy_cons (codeAny_handlers_test ?_) (by intro q; cases q)
        have looks : PySem.W.Looks (model X.prog X.w) g3 (typeOf (.ref e)) k := fun _ _ _ _ keep q => wpAny_typeOf_ref (keep _ _ here3) (by rw [z3.1]; exact q)
        have met := PySem.W.exm_one (M := model X.prog X.w) (J3.kIn) looks known
        have read : ∀ {Q E : Value → Shared → Prop}, Q p.1 { s' with heap := g3 } → wpAny (model X.prog X.w) (X.A.mark (some (.ref e))) (eval (.Name y q1) X.env) Q E { s' with heap := g3 } := fun {Q E} q => by
          rcases named with ⟨gl, nodbg, own' | ⟨none', blt, nn⟩⟩
          · exact ld_glob (X := X.suite e ((e, o3) :: (X.pn ++ pins))) suite3 gl own' q nodbg
          · exact ld_blt (X := X.suite e ((e, o3) :: (X.pn ++ pins))) suite3 gl none' blt q nn nodbg
        apply read
        apply met.here
        cases hit with
        | false => exact ih (no rfl)
        | true =>
          apply codeAny_handlers_suite_as
          refine HandSPX.lands_againZ landed fun g4 landed4 up4 => ?_
          have J4 : Inv X pins τ G { s' with heap := g4 } := J.landed nb landed4.1 ((up.trans up3).trans up4) os bare
          rcases landed4.there with ⟨o4, f4, here4, z4, data4⟩
          have suite4 := J4.suite here4 data4 ne notL notF
          refine store_ok (X := X.suite e ((e, o4) :: (X.pn ++ pins))) (v := .ref e) suite4 nd at_ place rfl (fun s5 I5 => ?_) (.inr lc)
          refine wpAny_mono ((suite e o4 k d (X.pn ++ pins) z4 ⟨_, data4⟩).run [] s5 _ G _ I5 (yes rfl e ne)) (fun flow s6 done => ?_) (fun _ _ z => z.elim)
          cases flow with
          | ret u =>
            rcases done with ⟨v, τ6, G6, I6, rel, q6⟩
            exact gone_ok (I6.unsuite sound) nd at_ lc fun s7 I7 => ⟨_, _, _, I7, rel, q6⟩
          | next =>
            rcases done with ⟨τ6, G6, I6, q6⟩
            exact gone_ok (I6.unsuite sound) nd at_ lc fun s7 I7 => ⟨_, _, I7, q6⟩
          | brk =>
            rcases done with ⟨τ6, G6, I6, q6⟩
            exact gone_ok (I6.unsuite sound) nd at_ lc fun s7 I7 => ⟨_, _, I7, q6⟩
          | cont =>
            rcases done with ⟨τ6, G6, I6, q6⟩
            exact gone_ok (I6.unsuite sound) nd at_ lc fun s7 I7 => ⟨_, _, I7, q6⟩
    exact walk clauses wish
  case refine_2 =>
    cases flow with
    | ret u =>
      rcases done with ⟨v, τ, G, J, rel, q⟩
      exact ⟨v, τ, G, J.ofTry sound, rel, q⟩
    | next =>
      rcases done with ⟨τ, G, J, q⟩
      exact wpAny_execs_nil ⟨τ, G, J.ofTry sound, q⟩
    | brk =>
      rcases done with ⟨τ, G, J, q⟩
      exact ⟨τ, G, J.ofTry sound, q⟩
    | cont =>
      rcases done with ⟨τ, G, J, q⟩
      exact ⟨τ, G, J.ofTry sound, q⟩
end
end L2N
/-! len(o), o of an own class with its own __len__. -/
namespace MXi
open PySem PySem.Spec PyProof.Rows L2
/-- the class has g as its __len__ -/
structure LenOf (K : PySem.W.Frag) (C g : Addr) : Prop where
  own : PySem.W.findIn K (.ref C) "__len__" = some (some (.ref g))
  isF : PySem.W.isFn K (.ref g) = true
def rLenO (C : Addr) (sp : Sp) (E : XK) : List V → Hp → VK → Prop := fun xs H Q => ∃ (a dx : Addr) (fs : List (Str × V)), xs = [.ref a] ∧ H a = some (.ins C dx fs) ∧
  sp [.ref a] H (fun v H' => ∃ n : Int, v = .int n ∧ 0 ≤ n ∧ n < 2 ^ 63 ∧ Q (.int n) H') E
section
variable {X : Cx} {CX : CXT} {k : Nat} {C g : Addr} {fd : FuncData} {ps : List Str} {sp : Sp} {E : XK}
theorem call_lenO (L : LenOf X.K C g) (F : FnOk X.prog X.w X.K X.mg X.base CX k g fd ps sp) (room : Room (k + 1) X.A) (hb : Binds X.K fd ps []) (hx : Passes CX X E) : CallR X (.builtin "len") (rLenO C sp E) := by
  intro pins s σ H xs us Q I rel want
  rcases want with ⟨a, dx, fs, rfl, here, want⟩
  obtain ⟨u, rfl, ru⟩ := vals1 rel
  obtain rfl : u = Value.ref a := ru
  rcases ins_get I.hok here with ⟨mA, O, _, _, _, _⟩
  rcases O.look with ⟨od, J, _⟩
  rcases I.fr with ⟨m, fr⟩
  have many : ([Value.ref a] ++ []).length = ps.length := F.len _ _ _ _ want
  refine PySem.W.len_K fr I.ok.mod.kin J L.own L.isF (wpAny_call ?_)
  refine codeAny_mono (F.run X.A.in1 X.stack s H ⟨[.ref a], []⟩ [.ref a] [.ref a] _ E room.in1 I.env0.in1 (hb s [.ref a] I.kIn many) (.cons rfl .nil) want) fun r s' back => ?_
  cases r with
  | error er => exact hx pins σ H s er s' I back
  | ok fl =>
    cases fl with
    | ret v =>
      obtain ⟨y, G, I3, ry, n, rfl, n0, n1, q⟩ := I.after back
      obtain ⟨t, rfl⟩ := ry
      exact ⟨⟨n0, n1⟩, .int n, G, I3.tok _, ⟨_, rfl⟩, q⟩
    | next => exact False.elim back
    | brk => exact False.elim back
    | cont => exact False.elim back
end
end MXi
/-! count_rows, the class Chart -/
namespace S8
open PySem PySem.Spec PyProof.Rows L2 LK MXi MY MZ
theorem for_enum {K : PySem.W.Frag} {a : Addr} {xs : List V} {g : TG} {tb : TS} {D : Ends} {σ : L2.St} {H : Hp} (Pv : Nat → L2.St → Hp → Prop) (h0 : Pv 0 σ H) (hq : ∀ i σ H, Pv i σ H → SqL K H a xs)
    (hs : ∀ (i : Nat) (x : V) (T : Addr) (σ : L2.St) (H : Hp), xs[i]? = some x → Pv i σ H → H T = none → g (.ref T) σ (upd H T (.tup [.int (i : Nat), x])) fun σ2 H2 => tb { D with nx := Pv (i + 1), ct := Pv (i + 1), bk := D.nx } σ2 H2) (hd : ∀ σ H, Pv xs.length σ H → D.nx σ H) :
    ∃ W : Nat → Nat → L2.St → Hp → Prop, (∃ m, W 0 m σ H) ∧ ∀ i m σ H, W i m σ H →
      ((Ite K a).stop i H ∧ D.nx σ H) ∨ ((Ite K a).go i H ∧ ∃ N : L2.St → Hp → Prop, (∀ σ' H', N σ' H' → ∃ m', m' < m ∧ W (i + 1) m' σ' H') ∧ ∀ v H', (Ite K a).yld i H v H' → g v σ H' fun σ2 H2 => tb { D with nx := N, ct := N, bk := D.nx } σ2 H2) := by
  refine ⟨fun i m σ H => m = xs.length - i ∧ i ≤ xs.length ∧ Pv i σ H, ⟨xs.length, rfl, Nat.zero_le _, h0⟩, ?_⟩
  rintro i m σ H ⟨rfl, hi, p⟩
  have qx := hq i σ H p
  by_cases hlt : i < xs.length
  · have hx : xs[i]? = some xs[i] := List.getElem?_eq_getElem hlt
    refine .inr ⟨⟨xs, _, qx, hx⟩, Pv (i + 1), fun σ' H' p' => ⟨xs.length - (i + 1), by omega, rfl, hlt, p'⟩, fun v H' y => ?_⟩
    obtain ⟨T, x', rfl, hT, rfl, f1⟩ := y
    exact hs i x' T σ H (f1 xs qx) p hT
  · have e : i = xs.length := by omega
    subst e
    exact .inl ⟨⟨xs, qx, Nat.le_refl _⟩, hd σ H p⟩
def hasInt (ds : List PyData) (i : Int) : Bool := ds.any fun d => match d with
  | .int j => j == i
  | _ => false
/-- the number at k is none, or stands ahead already -/
def lotBad (many : Int) (ds : List PyData) (k : Nat) : Bool := match ds[k]? with
  | some (.int i) => !decide (0 ≤ i ∧ i < many) || hasInt (ds.take k) i
  | some _ => true
  | none => false
def lotFault (many : Int) : PyData → Option Int
  | .list ds => ((List.range ds.length).find? (lotBad many ds)).map fun k : Nat => (k : Int)
  | _ => some (-1)
def optV : Option Int → V
  | none => .non
  | some i => .int i
def spLot (K : PySem.W.Frag) : Sp := fun vs H Q _ => ∃ (v : V) (d : PyData) (many : Int), vs = [v, .int many] ∧ Dp K H v d ∧ tame d = true ∧ ∀ H', Same H H' → Q (optV (lotFault many d)) H'
def spLot2 (K : PySem.W.Frag) : Sp := fun vs H Q _ => ∃ (v : V) (d : PyData) (many : Int), vs = [.int many, v] ∧ Dp K H v d ∧ tame d = true ∧ ∀ H', Same H H' → Q (optV (lotFault many d)) H'
/-- a chart at x -/
def IsH (K : PySem.W.Frag) (CC : Addr) (H : Hp) (x : Addr) (size : Nat) (rs : List Rw) : Prop := ∃ (dx L G : Addr) (xs : List V), H x = some (.ins CC dx [("_counts", .ref G), ("_rows", .ref L)]) ∧ H L = some (.lst xs) ∧ DpAll K H xs (rs.map rwD) ∧ H G = some (.lst (nI (cnts size rs)))
theorem IsH.same {K : PySem.W.Frag} {CC : Addr} {H H' : Hp} {x : Addr} {size : Nat} {rs : List Rw} (h : IsH K CC H x size rs) (s : Same H H') : IsH K CC H' x size rs := by
  obtain ⟨dx, L, G, xs, h1, h2, h3, h4⟩ := h
  exact ⟨dx, L, G, xs, s _ _ h1, s _ _ h2, dps_same s h3, s _ _ h4⟩
def spCsz (K : PySem.W.Frag) : Sp := fun vs H Q _ => ∃ i : Int, vs = [.int i] ∧ 1 ≤ i ∧ ∀ H', Same H H' → Q .non H'
def spCnr (K : PySem.W.Frag) : Sp := fun vs H Q _ => ∃ (Lr : Addr) (xs : List V) (size : Nat) (rs : List Rw), vs = [.int size, .ref Lr] ∧ SqL K H Lr xs ∧ DpAll K H xs (rs.map rwD) ∧ Rows size rs size ∧ rs ≠ [] ∧ (rs.length ≤ 1000 ∧ ∀ r ∈ rs, r.sts.length ≤ 1000) ∧
  ∀ (p : Addr) (H' : Hp), H p = none → Same H H' → H' p = some (.lst (nI (cnts size rs))) → Q (.ref p) H'
def spHin (K : PySem.W.Frag) (CC : Addr) : Sp := fun vs H Q _ => ∃ (x dx Lr : Addr) (xs : List V) (size : Nat) (rs : List Rw), vs = [.ref x, .int size, .ref Lr] ∧ H x = some (.ins CC dx []) ∧ SqL K H Lr xs ∧ DpAll K H xs (rs.map rwD) ∧ Rows size rs size ∧ rs ≠ [] ∧ (rs.length ≤ 1000 ∧ ∀ r ∈ rs, r.sts.length ≤ 1000) ∧ 1 ≤ size ∧
  ∀ (G L' : Addr) (H' : Hp), (∀ b o, b ≠ x → H b = some o → H' b = some o) → H' x = some (.ins CC dx [("_counts", .ref G), ("_rows", .ref L')]) → H' G = some (.lst (nI (cnts size rs))) → H' L' = some (.lst xs) → H G = none → H L' = none → Q .non H'
def spHwd (K : PySem.W.Frag) (CC : Addr) : Sp := fun vs H Q _ => ∃ (x : Addr) (size : Nat) (rs : List Rw), vs = [.ref x] ∧ IsH K CC H x size rs ∧ Q (.int size) H
def spHrw (K : PySem.W.Frag) (CC : Addr) : Sp := fun vs H Q _ => ∃ (x : Addr) (size : Nat) (rs : List Rw), vs = [.ref x] ∧ IsH K CC H x size rs ∧ ∀ (p : Addr) (xs : List V), H p = none → DpAll K H xs (rs.map rwD) → Q (.ref p) (upd H p (.lst xs))
def spHct (K : PySem.W.Frag) (CC : Addr) : Sp := fun vs H Q _ => ∃ (x : Addr) (size : Nat) (rs : List Rw), vs = [.ref x] ∧ IsH K CC H x size rs ∧ ∀ (p : Addr), H p = none → Q (.ref p) (upd H p (.lst (nI (cnts size rs))))
def spHln (K : PySem.W.Frag) (CC : Addr) : Sp := fun vs H Q _ => ∃ (x : Addr) (size : Nat) (rs : List Rw), vs = [.ref x] ∧ IsH K CC H x size rs ∧ Q (.int (rs.length : Nat)) H
/-- the class -/
structure Ch2 (P : Program) (w : World) (K : PySem.W.Frag) (mg : Str → Option Value) (base : Heap) (CC : Addr) where
  (pW pR pK gW gR gK gN fC : Addr)
  (fW fR fK fN dC : FuncData)
  aW : PropOf K CC "width" pW gW
  aR : PropOf K CC "rows" pR gR
  aK : PropOf K CC "counts" pK gK
  aN : LenOf K CC gN
  bW : Binds K fW ["self"] []
  bR : Binds K fR ["self"] []
  bK : Binds K fK ["self"] []
  bN : Binds K fN ["self"] []
  oW : FnOk P w K mg base CX0 1 gW fW ["self"] (spHwd K CC)
  oR : FnOk P w K mg base CX0 1 gR fR ["self"] (spHrw K CC)
  oK : FnOk P w K mg base CX0 1 gK fK ["self"] (spHct K CC)
  oN : FnOk P w K mg base CX0 1 gN fN ["self"] (spHln K CC)
  cc : Cls K CC
  mC : Mk K CC fC
  oC : FnOk P w K mg base CX0 7 fC dC ["self", "width", "rows"] (spHin K CC)
  gC : mg "Chart" = some (.ref CC)
  bC : Binds K dC ["self", "width", "rows"] []
theorem rows_short {most : Nat} {size : Nat} {rs : List Rw} (rr : Rows size rs size) (cc : ∀ x ∈ cnts size rs, 1 ≤ x ∧ x ≤ most) : ∀ r ∈ rs, r.sts.length ≤ most := fun r m => by
  obtain ⟨i, hi⟩ := List.getElem?_of_mem m
  obtain ⟨a, c1, c2, ok⟩ := rows_at rr hi
  have := ok.sts.len
  have := (cc _ (List.mem_of_getElem? c2)).2
  omega
/-- a chart of a right plan -/
theorem chart_new {K : PySem.W.Frag} {CC : Addr} {H : Hp} {Lr : Addr} {xs : List V} {size : Nat} {rs : List Rw} (hL : SqL K H Lr xs) (dx : DpAll K H xs (rs.map rwD)) (rr : Rows size rs size) (ne : rs ≠ []) (few : rs.length ≤ 1000 ∧ ∀ r ∈ rs, r.sts.length ≤ 1000) (s1 : 1 ≤ size) {x dxa : Addr} {Q : VK} {E : XK} (nx : H x = none) (ndx : H dxa = none)
    (q : ∀ H', Same H H' → IsH K CC H' x size rs → (∀ (c : Addr) (B : Nat), CR H c B → ∀ H2, Bt c H' H2 → IsH K CC H2 x size rs) → Q .non H') : spHin K CC [.ref x, .int size, .ref Lr] (upd (upd H dxa (.own x)) x (.ins CC dxa [])) Q E := by
  have s0 : Same H (upd (upd H dxa (.own x)) x (.ins CC dxa [])) := fun b o e => by
    rw [upd_ne (ne_of_none e nx), upd_ne (ne_of_none e ndx)]
    exact e
  refine ⟨x, dxa, Lr, xs, size, rs, rfl, upd_same, s0.seq hL, dps_same s0 dx, rr, ne, few, s1, fun G L' H' bx hx hG hL' nG nL => ?_⟩
  have back : ∀ {p : Addr}, upd (upd H dxa (.own x)) x (.ins CC dxa []) p = none → H p = none := fun {p} n => gone s0 n
  have sH : Same H H' := fun b o e => bx b o (ne_of_none e nx) (s0 b o e)
  refine q H' sH ⟨dxa, L', G, xs, hx, hL', dps_same sH dx, hG⟩ fun c B hc H2 b2 => ?_
  have hc' := hc.same sH
  exact ⟨dxa, L', G, xs, Tl.bt hc' b2 _ _ (fun _ z => by cases z) hx, b2 _ _ (cr_ne hc (back nL)) hL', dps_tl (Tl.bt hc' b2) (noLs_rws rs) (dps_same sH dx), b2 _ _ (cr_ne hc (back nG)) hG⟩
section
variable {P : Program} {w : World} {K : PySem.W.Frag} {mg : Str → Option Value} {base : Heap}
abbrev sCsz : Stmt := top 13
theorem scCsz : FnScope ["size"] ["size"] (defScope sCsz) := ⟨rfl, rfl, rfl, by decide +kernel, rfl, by decide +kernel, by decide +kernel⟩
theorem ok_Csz {f : Addr} {fd : FuncData} (F : Fun K "check_size" "check_size" sCsz f fd) (B : Bl mg)
    {f_is_integer : Addr} {d_is_integer : FuncData} (G_is_integer : FnOk P w K mg base CX0 1 f_is_integer d_is_integer ["value"] (spInt K)) (g_is_integer : mg "is_integer" = some (.ref f_is_integer)) (k_is_integer : PySem.W.keepIn K (.ref f_is_integer) = true) (b_is_integer : Binds K d_is_integer ["value"] []) : FnOk P w K mg base CX0 2 f fd ["size"] (spCsz K) := by
  refine F.ok scCsz (fun vs H Q E h => ?_) (fun cdv A outer s H vs Q E hr h => ?_)
  · obtain ⟨i, rfl, _⟩ := h
    rfl
  · obtain ⟨i, rfl, h1, k⟩ := h
    refine ⟨_, pss_one (ps_if (PW.pt (pw_or (pt_not (pt_val (pe_call (E := E0) G_is_integer (hr.mono (by decide)) rfl g_is_integer k_is_integer b_is_integer .nil pass0 (pa_cons (pv 0) pa_nil)))) (pw_or1 (pt_cmpR op_lt (pv 0) pe_int (nomark _))))) pss_never pss_nil), ?_⟩
    refine ⟨_, rfl, _, _, rfl, .int i, fun H1 s1 => ⟨_, rfl, LK.ifF rfl ⟨_, rfl, _, _, rfl, rfl, _, rfl, LK.ifF (decide_eq_false (by omega)) (k H1 s1)⟩⟩⟩
abbrev sCnr : Stmt := top 35
theorem scCnr : FnScope ["width", "rows", "counts", "index", "row", "_", "drawn"] ["width", "rows"] (defScope sCnr) := ⟨rfl, rfl, rfl, by decide +kernel, rfl, by decide +kernel, by decide +kernel⟩
theorem ok_Cnr {f : Addr} {fd : FuncData} (F : Fun K "count_rows" "count_rows" sCnr f fd) (B : Bl mg)
    {f_is_chart_row : Addr} {d_is_chart_row : FuncData} (G_is_chart_row : FnOk P w K mg base CX0 5 f_is_chart_row d_is_chart_row ["value", "count"] (spIcr K)) (g_is_chart_row : mg "is_chart_row" = some (.ref f_is_chart_row)) (k_is_chart_row : PySem.W.keepIn K (.ref f_is_chart_row) = true) (b_is_chart_row : Binds K d_is_chart_row ["value", "count"] []) : FnOk P w K mg base CX0 6 f fd ["width", "rows"] (spCnr K) := by
  refine F.ok scCnr (fun vs H Q E h => ?_) (fun cdv A outer s H vs Q E hr h => ?_)
  · obtain ⟨Lr, xs, size, rs, rfl, _⟩ := h
    rfl
  · obtain ⟨Lr, xs, size, rs, rfl, hL, dx, rr, ne, few, k⟩ := h
    refine ⟨_, pss_cons (ps_if (PW.pt (pw_or (pt_not (pt_val (pe_callB call_isi (by rfl) (B "isinstance" (by decide)) (by decide +kernel) (pa_cons (pv 1) (pa_cons (pe_bltn (v := .ty "list") rfl (B "list" (by decide)) (by decide +kernel) rfl) pa_nil))))) (pw_or1 (pt_not (pt_truth (pv 1) (by intro _; rfl)))))) pss_never pss_nil)
      (pss_cons (ps_set (i := 2) scCnr.nd rfl (Or.inl rfl) (pe_lst (pa_cons (pv 0) pa_nil)))
      (pss_cons (ps_for PassesOwn.never rfl (pi_enum (by rfl) (B "enumerate" (by decide)) (pa_cons (pv 1) pa_nil)) (pg_tup rfl (pgs_cons (pg_name (i := 3) scCnr.nd rfl (Or.inl rfl)) (pgs_cons (pg_name (i := 4) scCnr.nd rfl (Or.inl rfl)) pgs_nil))) (pss_cons (ps_if (pt_not (pt_val (pe_call (E := E0) G_is_chart_row (hr.mono (by decide)) rfl g_is_chart_row k_is_chart_row b_is_chart_row .nil pass0 (pa_cons (pv 4) (pa_cons (pe_ix ix_list (pv 2) (pe_un un_neg pe_int) (fun _ _ => rfl)) pa_nil))))) pss_never pss_nil)
      (pss_one (ps_expr (pe_bm PySem.F.plainAttrs_list PySem.F.slot_list_append PySem.F.type_list_append mt_append (pv 2) (pa_cons (pe_callB (cr_sum rfl) (by rfl) (B "sum" (by decide)) (by decide +kernel) (pa_cons (pe_lc (own := [("_", 5), ("drawn", 6)]) (g := (gTup K 2 (gCons (gName 5) (gCons (gName 6) gNil)))) (tt := tYes) rfl scCnr.nd (pi_tup (pe_ix (ixt (K := K)) (pv 4) pe_int (fun _ _ => rfl))) (blkOk_by (N := ["width", "rows", "counts", "index", "row", "_", "drawn"]) (sc := defScope sCnr) (by decide +kernel)) (fun _ _ _ _ _ => pg_tup rfl (pgs_cons (pg_name (i := 5) scCnr.nd rfl (Or.inl rfl)) (pgs_cons (pg_name (i := 6) scCnr.nd rfl (Or.inl rfl)) pgs_nil))) (fun _ _ _ _ _ => pts_nil) (fun _ _ _ _ _ => pv 6)) pa_nil)) pa_nil))))))
      (pss_cons (ps_if (pt_cmpR op_ne (pe_ix ix_list (pv 2) (pe_un un_neg pe_int) (fun _ _ => rfl)) (pv 0) (nomark _)) pss_never pss_nil)
      (pss_one (ps_ret (pv 2)))))), ?_⟩
    have ty2 : sizeLine = 16777216 := sizeLine_eq
    have xl := dps_len dx
    rw [List.length_map] at xl
    have rl : 0 < rs.length := List.length_pos_iff.mpr ne
    have hD : Dp K H (.ref Lr) (.list (rs.map rwD)) := .lst hL dx
    refine ⟨_, rfl, _, _, _, _, _, rfl, .ty "list", dp_ty hD, kit_d hD "list" (by decide), _, rfl, LK.ifF rfl ?_⟩
    refine ⟨_, rfl, true, .inl ⟨xs, hL, ?_⟩, LK.ifF rfl ?_⟩
    · cases xs with
      | nil => rw [List.length_nil] at xl; omega
      | cons a r => rfl
    dsimp only [tSeq]
    refine ⟨_, rfl, by show 1 ≤ sizeLine; decide, fun C nC => ?_⟩
    have t1 := same_new (o := .lst [.int (size : Int)]) nC
    dsimp only [gName, List.set, tSeq]
    refine stJ (fun σ Hn => ∃ (o3 o4 o5 o6 : Option V), σ = [some (.int size), some (.ref Lr), some (.ref C), o3, o4, o5, o6] ∧ Same H Hn ∧ Hn C = some (.lst (nI (cnts size rs)))) (fun D' aft => ?_) ?_
    · refine ⟨_, rfl, Lr, xs, rfl, t1.seq hL, ?_⟩
      refine for_enum (K := K) (a := Lr) (xs := xs) (fun i σ Hn => ∃ (o3 o4 o5 o6 : Option V), σ = [some (.int size), some (.ref Lr), some (.ref C), o3, o4, o5, o6] ∧ Same H Hn ∧ Hn C = some (.lst (nI ((cnts size rs).take (i + 1)))))
        ⟨_, _, _, _, rfl, t1, upd_same⟩ (fun i σ Hn hI => by obtain ⟨_, _, _, _, _, s, _⟩ := hI; exact s.seq hL) (fun i x T σ Hn hx hI nT => ?_) (fun σ Hn hI => ?_)
      · obtain ⟨o3, o4, o5, o6, rfl, s, eC⟩ := hI
        have il := (List.getElem?_eq_some_iff.mp hx).1
        obtain ⟨r, hr'⟩ : ∃ r, rs[i]? = some r := ⟨_, List.getElem?_eq_getElem (by omega)⟩
        obtain ⟨a, c1, c2, okr⟩ := rows_at rr hr'
        have t2 := same_new (o := .tup [.int (i : Nat), x]) nT
        have eC2 := t2 _ _ eC
        have s2 := s.trans t2
        have hr2 := dp_same s2 (dps_get dx hx (by rw [List.getElem?_map, hr']; rfl))
        have eT2 := upd_same (H := Hn) (a := T) (o := .tup [.int (i : Nat), x])
        generalize upd Hn T (.tup [.int (i : Nat), x]) = H2 at eC2 s2 hr2 eT2
        have tk1 : (cnts size rs).take (i + 1) = (cnts size rs).take i ++ [a] := by
          rw [List.take_add_one, c1]
          rfl
        have tk2 : (cnts size rs).take (i + 1 + 1) = (cnts size rs).take (i + 1) ++ [drs r.sts] := by
          rw [List.take_add_one, c2]
          rfl
        refine ⟨T, _, rfl, SqT.of eT2, rfl, ?_⟩
        refine ⟨_, _, rfl, _, _, rfl, rfl, ?_⟩
        dsimp only [gName, gCons, gNil, List.set, tSeq]
        refine ⟨_, rfl, _, rfl, 1, rfl, C, _, -1, .int (a : Int), rfl, rfl, SqL.of eC2, by rw [tk1, show nI ((cnts size rs).take i ++ [a]) = nI ((cnts size rs).take i) ++ [V.int (a : Int)] from List.map_append]; exact atI_last _ _, ?_⟩
        refine ⟨x, a, r, rfl, hr2, okr, few.2 r (List.mem_of_getElem? hr'), fun H3 s3 => ⟨_, rfl, LK.ifF rfl ?_⟩⟩
        have hr3 := dp_same s3 hr2
        have eC3 := s3 _ _ eC2
        obtain ⟨ax, axs, rfl, hax, dax⟩ : ∃ (ax : Addr) (axs : List V), x = .ref ax ∧ SqT K H3 ax axs ∧ DpAll K H3 axs [.str r.nm, .int (r.off : Int), .tuple (r.sts.map stD)] := by
          cases hr3 with
          | tup q r => exact ⟨_, _, rfl, q, r⟩
        obtain ⟨b, ws, rfl, hw, dw⟩ : ∃ (b : Addr) (ws : List V), axs = [.str r.nm, .int (r.off : Int), .ref b] ∧ SqT K H3 b ws ∧ DpAll K H3 ws (r.sts.map stD) := by
          cases dax with
          | cons d1 dx =>
            cases d1
            cases dx with
            | cons d2 dx =>
              cases d2
              cases dx with
              | cons d3 dx =>
                cases dx
                cases d3 with
                | tup q r => exact ⟨_, _, rfl, q, r⟩
        have wl := dps_len dw
        rw [List.length_map] at wl
        have fw := few.2 r (List.mem_of_getElem? hr')
        have ez : (ws.zip r.sts).map (fun z => z.1) = ws := by rw [show (fun z : V × Sti => z.1) = Prod.fst from rfl, List.map_fst_zip (by omega)]
        refine ⟨_, rfl, .inl ⟨rfl, _, SqL.of eC3⟩, ?_⟩
        refine ⟨_, rfl, ax, _, 2, _, rfl, rfl, hax, atI_nat (j := 2) rfl, b, rfl, ⟨_, by rw [← ez] at hw; exact hw⟩, fun M nM => ?_⟩
        refine lcf_tup (ns := ws.zip r.sts) (c := fun z : V × Sti => z.1) (fun _ => true) (fun z => V.int (z.2.2 : Int)) (by rw [ez]; exact hw) nM (by rw [List.length_zip]; omega) (fun j z H4 yes no hz s4 y n => ?_) (fun H4 s4 eM => ?_)
        · obtain ⟨z1, z2⟩ := List.getElem?_zip_eq_some.mp hz
          obtain ⟨q, e1, q1⟩ := st_tup (dp_same s4 (dps_get dw z1 (by rw [List.getElem?_map, z2]; rfl)))
          rw [e1]
          refine ⟨q, _, rfl, q1, rfl, _, _, rfl, _, _, rfl, rfl, rfl, ?_⟩
          exact ⟨_, rfl, y rfl _ (Same.refl _)⟩
        have tm : ((ws.zip r.sts).filter fun _ => true).map (fun z => V.int (z.2.2 : Int)) = (r.sts.map fun s => (s.2 : Int)).map V.int := by
          rw [List.filter_eq_self.mpr (fun _ _ => rfl), List.map_map]
          conv => rhs; rw [← List.map_snd_zip (l₁ := ws) (l₂ := r.sts) (by omega), List.map_map]
          rfl
        rw [tm] at eM
        have eC4 := s4 _ _ eC3
        have cl := cnts_len size rs
        refine ⟨M, _, rfl, SqL.of eM, C, _, _, rfl, rfl, eC4, by rw [List.length_map, List.length_take]; omega, ?_⟩
        rw [sum_drs]
        refine ⟨_, _, _, _, rfl, fun b' o e => ?_, ?_⟩
        · rw [upd_ne (ne_none e nC)]
          exact (s2.trans s3 |>.trans s4) _ _ e
        · rw [upd_same, tk2]
          rw [nI_app]
          rfl
      · obtain ⟨o3, o4, o5, o6, rfl, s, eC⟩ := hI
        rw [List.take_of_length_le (by rw [cnts_len]; omega)] at eC
        exact aft _ _ ⟨_, _, _, _, rfl, s, eC⟩
    rintro σ Hn ⟨o3, o4, o5, o6, rfl, s, eC⟩
    dsimp only [tSeq]
    have ce := cnts_end rr
    have tk : cnts size rs = (cnts size rs).take rs.length ++ [size] := by
      have := List.take_of_length_le (l := cnts size rs) (i := rs.length + 1) (by rw [cnts_len]; omega)
      rw [List.take_add_one, ce] at this
      exact this.symm
    refine ⟨_, rfl, 1, rfl, C, _, -1, .int (size : Int), rfl, rfl, SqL.of eC, by rw [tk, show nI ((cnts size rs).take rs.length ++ [size]) = nI ((cnts size rs).take rs.length) ++ [V.int (size : Int)] from List.map_append]; exact atI_last _ _, ?_⟩
    refine ⟨_, rfl, rfl, _, rfl, LK.ifF (by simp) ?_⟩
    exact ⟨_, rfl, k C Hn nC s eC⟩
abbrev sHin : Stmt := inClass (top 36) 0
theorem scHin : FnScope ["self", "width", "rows"] ["self", "width", "rows"] (defScope sHin) := ⟨rfl, rfl, rfl, by decide +kernel, rfl, by decide +kernel, by decide +kernel⟩
theorem ok_Hin {f : Addr} {fd : FuncData} (F : Fun K "__init__" "Chart.__init__" sHin f fd) (B : Bl mg) {CC : Addr} (cc : Cls K CC) (n1 : NoAttr K CC "_counts") (n2 : NoAttr K CC "_rows")
    {f_check_size : Addr} {d_check_size : FuncData} (G_check_size : FnOk P w K mg base CX0 2 f_check_size d_check_size ["size"] (spCsz K)) (g_check_size : mg "check_size" = some (.ref f_check_size)) (k_check_size : PySem.W.keepIn K (.ref f_check_size) = true) (b_check_size : Binds K d_check_size ["size"] [])
    {f_count_rows : Addr} {d_count_rows : FuncData} (G_count_rows : FnOk P w K mg base CX0 6 f_count_rows d_count_rows ["width", "rows"] (spCnr K)) (g_count_rows : mg "count_rows" = some (.ref f_count_rows)) (k_count_rows : PySem.W.keepIn K (.ref f_count_rows) = true) (b_count_rows : Binds K d_count_rows ["width", "rows"] []) : FnOk P w K mg base CX0 7 f fd ["self", "width", "rows"] (spHin K CC) := by
  refine F.ok scHin (fun vs H Q E h => ?_) (fun cdv A outer s H vs Q E hr h => ?_)
  · obtain ⟨x, dx, Lr, xs, size, rs, rfl, _⟩ := h
    rfl
  · obtain ⟨x, dx, Lr, xs, size, rs, rfl, hx, hL, dL, rr, ne, few, s1, k⟩ := h
    refine ⟨_, pss_cons (ps_expr (pe_call (E := E0) G_check_size (hr.mono (by decide)) rfl g_check_size k_check_size b_check_size .nil pass0 (pa_cons (pv 1) pa_nil)))
      (pss_cons (ps_fld (pv 0) (pe_call (E := E0) G_count_rows (hr.mono (by decide)) rfl g_count_rows k_count_rows b_count_rows .nil pass0 (pa_cons (pv 1) (pa_cons (pv 2) pa_nil))) rfl)
      (pss_one (ps_fld (pv 0) (pe_callTy call_list_of (by rfl) (B "list" (by decide)) (by decide +kernel) (pa_cons (pv 2) pa_nil)) rfl))), ?_⟩
    refine ⟨_, rfl, _, rfl, by omega, fun H1 e1 => ?_⟩
    dsimp only [tSeq]
    refine ⟨_, rfl, _, rfl, Lr, xs, size, rs, rfl, e1.seq hL, dps_same e1 dL, rr, ne, few, fun G H2 nG e2 eG => ?_⟩
    have e12 := e1.trans e2
    have nG0 := gone e1 nG
    have xG : x ≠ G := ne_none hx nG0
    refine ⟨_, rfl, x, CC, dx, [], rfl, e12 _ _ hx, cc, n1, by decide, ?_⟩
    have b2 : ∀ b o, b ≠ x → H b = some o → upd H2 x (.ins CC dx (putF "_counts" (.ref G) [])) b = some o := fun b o n e => by
      rw [upd_ne n]
      exact e12 _ _ e
    have hx2 := upd_same (H := H2) (a := x) (o := .ins CC dx (putF "_counts" (.ref G) []))
    have eG2 : upd H2 x (.ins CC dx (putF "_counts" (.ref G) [])) G = some (.lst (nI (cnts size rs))) := by
      rw [upd_ne xG.symm]
      exact eG
    have hL2 : SqL K (upd H2 x (.ins CC dx (putF "_counts" (.ref G) []))) Lr xs := by
      rcases hL with (h | ⟨o, h⟩) | h
      · exact .inl (.inl (b2 _ _ (ne_of h hx (by intro q; cases q)) h))
      · exact .inl (.inr ⟨o, b2 _ _ (ne_of h hx (by intro q; cases q)) h⟩)
      · exact .inr h
    generalize upd H2 x (.ins CC dx (putF "_counts" (.ref G) [])) = H3 at b2 hx2 eG2 hL2
    dsimp only [tSeq]
    refine ⟨_, rfl, Lr, xs, rfl, .inl hL2, fun L2' nL => ?_⟩
    have t4 := same_new (o := .lst xs) nL
    have xL : x ≠ L2' := ne_none hx2 nL
    refine ⟨_, rfl, x, CC, dx, _, rfl, t4 _ _ hx2, cc, n2, by show 1 < 1000; decide, ?_⟩
    refine k G L2' _ (fun b o n e => ?_) ?_ ?_ ?_ nG0 ?_
    · rw [upd_ne n]
      exact t4 _ _ (b2 b o n e)
    · rw [upd_same]
      rfl
    · rw [upd_ne xG.symm]
      exact t4 _ _ eG2
    · rw [upd_ne xL.symm, upd_same]
    · cases e : H L2' with
      | none => rfl
      | some o =>
        have := b2 _ _ xL.symm e
        rw [nL] at this
        cases this
abbrev sHwd : Stmt := inClass (top 36) 1
theorem scHwd : FnScope ["self"] ["self"] (defScope sHwd) := ⟨rfl, rfl, rfl, by decide +kernel, rfl, by decide +kernel, by decide +kernel⟩
theorem ok_Hwd {f : Addr} {fd : FuncData} (F : Fun K "width" "Chart.width" sHwd f fd) (B : Bl mg) {CC : Addr} (cc : Cls K CC) (n1 : NoAttr K CC "_counts") : FnOk P w K mg base CX0 1 f fd ["self"] (spHwd K CC) := by
  refine F.ok scHwd (fun vs H Q E h => ?_) (fun cdv A outer s H vs Q E hr h => ?_)
  · obtain ⟨x, size, rs, rfl, _⟩ := h
    rfl
  · obtain ⟨x, size, rs, rfl, ⟨dx, L, G, xs, hx, hL, dL, hG⟩, k⟩ := h
    refine ⟨_, pss_one (ps_ret (pe_ix ix_list (pe_fld (pv 0) rfl) pe_int (fun _ _ => rfl))), ?_⟩
    exact ⟨_, rfl, x, CC, dx, _, _, rfl, hx, cc, n1, rfl, G, _, 0, _, rfl, rfl, SqL.of hG, atI_nat (j := 0) rfl, k⟩
abbrev sHrw : Stmt := inClass (top 36) 2
theorem scHrw : FnScope ["self"] ["self"] (defScope sHrw) := ⟨rfl, rfl, rfl, by decide +kernel, rfl, by decide +kernel, by decide +kernel⟩
theorem ok_Hrw {f : Addr} {fd : FuncData} (F : Fun K "rows" "Chart.rows" sHrw f fd) (B : Bl mg) {CC : Addr} (cc : Cls K CC) (n2 : NoAttr K CC "_rows") : FnOk P w K mg base CX0 1 f fd ["self"] (spHrw K CC) := by
  refine F.ok scHrw (fun vs H Q E h => ?_) (fun cdv A outer s H vs Q E hr h => ?_)
  · obtain ⟨x, size, rs, rfl, _⟩ := h
    rfl
  · obtain ⟨x, size, rs, rfl, ⟨dx, L, G, xs, hx, hL, dL, hG⟩, k⟩ := h
    refine ⟨_, pss_one (ps_ret (pe_callTy call_list_of (by rfl) (B "list" (by decide)) (by decide +kernel) (pa_cons (pe_fld (pv 0) rfl) pa_nil))), ?_⟩
    exact ⟨_, rfl, x, CC, dx, _, _, rfl, hx, cc, n2, rfl, L, xs, rfl, .inl (SqL.of hL), fun p np => k p xs np dL⟩
abbrev sHct : Stmt := inClass (top 36) 3
theorem scHct : FnScope ["self"] ["self"] (defScope sHct) := ⟨rfl, rfl, rfl, by decide +kernel, rfl, by decide +kernel, by decide +kernel⟩
theorem ok_Hct {f : Addr} {fd : FuncData} (F : Fun K "counts" "Chart.counts" sHct f fd) (B : Bl mg) {CC : Addr} (cc : Cls K CC) (n1 : NoAttr K CC "_counts") : FnOk P w K mg base CX0 1 f fd ["self"] (spHct K CC) := by
  refine F.ok scHct (fun vs H Q E h => ?_) (fun cdv A outer s H vs Q E hr h => ?_)
  · obtain ⟨x, size, rs, rfl, _⟩ := h
    rfl
  · obtain ⟨x, size, rs, rfl, ⟨dx, L, G, xs, hx, hL, dL, hG⟩, k⟩ := h
    refine ⟨_, pss_one (ps_ret (pe_callTy call_list_of (by rfl) (B "list" (by decide)) (by decide +kernel) (pa_cons (pe_fld (pv 0) rfl) pa_nil))), ?_⟩
    exact ⟨_, rfl, x, CC, dx, _, _, rfl, hx, cc, n1, rfl, G, _, rfl, .inl (SqL.of hG), fun p np => k p np⟩
abbrev sHln : Stmt := inClass (top 36) 7
theorem scHln : FnScope ["self"] ["self"] (defScope sHln) := ⟨rfl, rfl, rfl, by decide +kernel, rfl, by decide +kernel, by decide +kernel⟩
theorem ok_Hln {f : Addr} {fd : FuncData} (F : Fun K "__len__" "Chart.__len__" sHln f fd) (B : Bl mg) {CC : Addr} (cc : Cls K CC) (n2 : NoAttr K CC "_rows") : FnOk P w K mg base CX0 1 f fd ["self"] (spHln K CC) := by
  refine F.ok scHln (fun vs H Q E h => ?_) (fun cdv A outer s H vs Q E hr h => ?_)
  · obtain ⟨x, size, rs, rfl, _⟩ := h
    rfl
  · obtain ⟨x, size, rs, rfl, ⟨dx, L, G, xs, hx, hL, dL, hG⟩, k⟩ := h
    refine ⟨_, pss_one (ps_ret (pe_callB call_len_seq (by rfl) (B "len" (by decide)) (by decide +kernel) (pa_cons (pe_fld (pv 0) rfl) pa_nil))), ?_⟩
    refine ⟨_, rfl, x, CC, dx, _, _, rfl, hx, cc, n2, rfl, L, xs, rfl, .inl (SqL.of hL), ?_⟩
    rw [dps_len dL, List.length_map]
    exact k
end
end S8
/-! Where the ends of a stretch lie in the row below: the mathematics of spans. -/
namespace MZ
open PySem PySem.Spec PyProof.Rows L2 LK MY
/-- what a stitch that takes loops takes (lo to hi) and draws (nw to ls) -/
structure Spn where
  lo : Nat
  hi : Nat
  nw : Nat
  ls : Nat
def spn : Nat → Nat → List Sti → List Spn
  | _, _, [] => []
  | lo, nw, s :: r => (if 0 < s.1 then [⟨lo, lo + s.1 - 1, nw, nw + s.2 - 1⟩] else []) ++ spn (lo + s.1) (nw + s.2) r
theorem spn_app : ∀ (a b : List Sti) (lo nw : Nat), spn lo nw (a ++ b) = spn lo nw a ++ spn (lo + tks a) (nw + drs a) b
  | [], b, lo, nw => rfl
  | s :: a, b, lo, nw => by
    have := spn_app a b (lo + s.1) (nw + s.2)
    show _ ++ spn _ _ (a ++ b) = (_ ++ spn _ _ a) ++ _
    rw [this, List.append_assoc]
    have e1 : lo + s.1 + tks a = lo + tks (s :: a) := by
      unfold tks
      rw [List.map_cons, List.sum_cons]
      omega
    have e2 : nw + s.2 + drs a = nw + drs (s :: a) := by
      unfold drs
      rw [List.map_cons, List.sum_cons]
      omega
    rw [e1, e2]
/-- spans one behind the other, in a repeat -/
structure SpOk (L : List Spn) (off a b : Nat) : Prop where
  ord : L.Pairwise fun p q => p.hi < q.lo ∧ p.ls < q.nw
  ok : ∀ q ∈ L, off ≤ q.lo ∧ q.lo ≤ q.hi ∧ q.hi < off + a ∧ q.nw ≤ q.ls ∧ q.ls < b
  ne : L ≠ []
theorem spn_ok : ∀ (ss : List Sti) (lo nw : Nat), (∀ s ∈ ss, 1 ≤ s.2) → (spn lo nw ss).Pairwise (fun p q => p.hi < q.lo ∧ p.ls < q.nw) ∧ ∀ q ∈ spn lo nw ss, lo ≤ q.lo ∧ q.lo ≤ q.hi ∧ q.hi < lo + tks ss ∧ nw ≤ q.nw ∧ q.nw ≤ q.ls ∧ q.ls < nw + drs ss
  | [], lo, nw, _ => ⟨List.Pairwise.nil, fun q m => absurd m List.not_mem_nil⟩
  | s :: r, lo, nw, h => by
    obtain ⟨h1, h2⟩ := spn_ok r (lo + s.1) (nw + s.2) fun q m => h q (List.mem_cons_of_mem _ m)
    have hs := h s List.mem_cons_self
    have e1 : tks (s :: r) = s.1 + tks r := by
      unfold tks
      rw [List.map_cons, List.sum_cons]
    have e2 : drs (s :: r) = s.2 + drs r := by
      unfold drs
      rw [List.map_cons, List.sum_cons]
    unfold spn
    refine ⟨List.pairwise_append.mpr ⟨?_, h1, fun p mp q mq => ?_⟩, fun q m => ?_⟩
    · split
      · exact List.pairwise_singleton _ _
      · exact List.Pairwise.nil
    · have := h2 q mq
      split at mp
      · rw [List.mem_singleton.mp mp]
        dsimp only
        omega
      · exact absurd mp List.not_mem_nil
    · rw [e1, e2]
      rcases List.mem_append.mp m with m | m
      · split at m
        · rw [List.mem_singleton.mp m]
          dsimp only
          omega
        · exact absurd m List.not_mem_nil
      · have := h2 q m
        omega
theorem spn_ne : ∀ (ss : List Sti) (lo nw : Nat), 1 ≤ tks ss → spn lo nw ss ≠ []
  | [], _, _, h => absurd h (by decide)
  | s :: r, lo, nw, h => by
    have e1 : tks (s :: r) = s.1 + tks r := by
      unfold tks
      rw [List.map_cons, List.sum_cons]
    unfold spn
    by_cases c : 0 < s.1
    · rw [if_pos c]
      exact fun z => by cases z
    · have := spn_ne r (lo + s.1) (nw + s.2) (by omega)
      rw [if_neg c]
      exact this
/-- the spans of a right row -/
def spR (r : Rw) : List Spn := spn r.off 0 r.sts
theorem OkRow.sp {c : Nat} {r : Rw} (h : OkRow c r) : SpOk (spR r) r.off c (drs r.sts) := by
  have c1 : 1 ≤ c := by have := h.off; omega
  obtain ⟨h1, h2⟩ := spn_ok r.sts r.off 0 fun s m => (h.sts.ok s m).2.1
  refine ⟨h1, fun q m => ?_, spn_ne _ _ _ (by rw [h.sts.tk]; exact c1)⟩
  have := h2 q m
  rw [h.sts.tk] at this
  omega
/-- the least and the greatest of a list -/
def minL : List Int → Int
  | [] => 0
  | [a] => a
  | a :: b :: r => min a (minL (b :: r))
def maxL : List Int → Int
  | [] => 0
  | [a] => a
  | a :: b :: r => max a (maxL (b :: r))
theorem minL_ok : ∀ {l : List Int}, l ≠ [] → minL l ∈ l ∧ ∀ z ∈ l, minL l ≤ z
  | [], h => absurd rfl h
  | [a], _ => ⟨List.mem_singleton.mpr rfl, fun z m => by rw [List.mem_singleton.mp m]; exact Int.le_refl _⟩
  | a :: b :: r, _ => by
    obtain ⟨h1, h2⟩ := minL_ok (l := b :: r) (by simp)
    have e : minL (a :: b :: r) = min a (minL (b :: r)) := rfl
    rw [e]
    refine ⟨?_, fun z m => ?_⟩
    · rcases Int.le_total a (minL (b :: r)) with c | c
      · rw [Int.min_eq_left c]
        exact List.mem_cons_self
      · rw [Int.min_eq_right c]
        exact List.mem_cons_of_mem _ h1
    · rcases List.mem_cons.mp m with rfl | m
      · exact Int.min_le_left _ _
      · exact Int.le_trans (Int.min_le_right _ _) (h2 z m)
theorem maxL_ok : ∀ {l : List Int}, l ≠ [] → maxL l ∈ l ∧ ∀ z ∈ l, z ≤ maxL l
  | [], h => absurd rfl h
  | [a], _ => ⟨List.mem_singleton.mpr rfl, fun z m => by rw [List.mem_singleton.mp m]; exact Int.le_refl _⟩
  | a :: b :: r, _ => by
    obtain ⟨h1, h2⟩ := maxL_ok (l := b :: r) (by simp)
    have e : maxL (a :: b :: r) = max a (maxL (b :: r)) := rfl
    rw [e]
    refine ⟨?_, fun z m => ?_⟩
    · rcases Int.le_total a (maxL (b :: r)) with c | c
      · rw [Int.max_eq_right c]
        exact List.mem_cons_of_mem _ h1
      · rw [Int.max_eq_left c]
        exact List.mem_cons_self
    · rcases List.mem_cons.mp m with rfl | m
      · exact Int.le_max_left _ _
      · exact Int.le_trans (h2 z m) (Int.le_max_right _ _)
theorem minL_eq {l : List Int} {m : Int} (h1 : m ∈ l) (h2 : ∀ z ∈ l, m ≤ z) : m = minL l := by
  obtain ⟨a, b⟩ := minL_ok (List.ne_nil_of_mem h1)
  exact Int.le_antisymm (h2 _ a) (b _ h1)
theorem maxL_eq {l : List Int} {m : Int} (h1 : m ∈ l) (h2 : ∀ z ∈ l, z ≤ m) : m = maxL l := by
  obtain ⟨a, b⟩ := maxL_ok (List.ne_nil_of_mem h1)
  exact Int.le_antisymm (b _ h1) (h2 _ a)
def lVal (a b : Nat) (x : Int) (q : Spn) : Int := (q.lo : Int) - ((q.nw : Int) - x) / (b : Int) * (a : Int)
def rVal (a b : Nat) (x : Int) (q : Spn) : Int := (q.hi : Int) + (x - (q.ls : Int)) / (b : Int) * (a : Int)
/-- the left and the right end in the row below -/
def lE (L : List Spn) (a b : Nat) (x : Int) : Int := minL (L.map (lVal a b x))
def rE (L : List Spn) (a b : Nat) (x : Int) : Int := maxL (L.map (rVal a b x))
theorem div_iff {z k b : Int} (h : 0 < b) : z / b = k ↔ k * b ≤ z ∧ z < (k + 1) * b := by
  constructor
  · rintro rfl
    have e := Int.mul_ediv_add_emod z b
    have r0 := Int.emod_nonneg z (Int.ne_of_gt h)
    have r1 := Int.emod_lt_of_pos z h
    rw [Int.add_mul, Int.one_mul, Int.mul_comm (z / b) b]
    omega
  · rintro ⟨h1, h2⟩
    have e1 : k ≤ z / b := (Int.le_ediv_iff_mul_le h).mpr h1
    have e2 : z / b < k + 1 := (Int.ediv_lt_iff_lt_mul h).mpr h2
    omega
theorem mul_mono {k l a : Int} (ha : 0 ≤ a) (h : k ≤ l) : k * a ≤ l * a := Int.mul_le_mul_of_nonneg_right h ha
section
variable {L : List Spn} {off a b : Nat} (S : SpOk L off a b)
include S
theorem SpOk.a1 : 1 ≤ a := by
  obtain ⟨q, m⟩ := List.exists_mem_of_ne_nil _ S.ne
  have := S.ok q m
  omega
theorem SpOk.b1 : 1 ≤ b := by
  obtain ⟨q, m⟩ := List.exists_mem_of_ne_nil _ S.ne
  have := S.ok q m
  omega
/-- two spans of one repeat -/
theorem SpOk.two {p q : Spn} (hp : p ∈ L) (hq : q ∈ L) : p = q ∨ (p.hi < q.lo ∧ p.ls < q.nw) ∨ (q.hi < p.lo ∧ q.ls < p.nw) := by
  obtain ⟨i, hi⟩ := List.getElem?_of_mem hp
  obtain ⟨j, hj⟩ := List.getElem?_of_mem hq
  obtain ⟨il, ei⟩ := List.getElem?_eq_some_iff.mp hi
  obtain ⟨jl, ej⟩ := List.getElem?_eq_some_iff.mp hj
  rcases Nat.lt_trichotomy i j with c | c | c
  · have := List.pairwise_iff_getElem.mp S.ord i j il jl c
    rw [ei, ej] at this
    exact .inr (.inl this)
  · subst c
    exact .inl (ei.symm.trans ej)
  · have := List.pairwise_iff_getElem.mp S.ord j i jl il c
    rw [ei, ej] at this
    exact .inr (.inr this)
/-- the order of the spans along the ring -/
theorem SpOk.order {p q : Spn} {k l : Int} (hp : p ∈ L) (hq : q ∈ L) (h : (p.lo : Int) + k * a ≤ q.hi + l * a) : (p.lo : Int) + k * a ≤ q.lo + l * a ∧ (p.hi : Int) + k * a ≤ q.hi + l * a ∧ (p.nw : Int) + k * b ≤ q.nw + l * b ∧ (p.ls : Int) + k * b ≤ q.ls + l * b := by
  have p1 := S.ok p hp
  have q1 := S.ok q hq
  rcases Int.lt_trichotomy k l with c | c | c
  · have e1 : k * (a : Int) + a ≤ l * a := by
      have := mul_mono (a := (a : Int)) (by omega) (show k + 1 ≤ l by omega)
      rw [Int.add_mul, Int.one_mul] at this
      exact this
    have e2 : k * (b : Int) + b ≤ l * b := by
      have := mul_mono (a := (b : Int)) (by omega) (show k + 1 ≤ l by omega)
      rw [Int.add_mul, Int.one_mul] at this
      exact this
    omega
  · subst c
    rcases S.two hp hq with rfl | c | c <;> omega
  · have e1 : l * (a : Int) + a ≤ k * a := by
      have := mul_mono (a := (a : Int)) (by omega) (show l + 1 ≤ k by omega)
      rw [Int.add_mul, Int.one_mul] at this
      exact this
    omega
theorem SpOk.lval {q : Spn} (x : Int) : ∃ k : Int, lVal a b x q = q.lo + k * a ∧ x ≤ q.nw + k * b ∧ ∀ l : Int, x ≤ q.nw + l * b → k ≤ l := by
  have b0 : (0 : Int) < b := by have := S.b1; omega
  obtain ⟨h1, h2⟩ := (div_iff b0).mp (rfl : ((q.nw : Int) - x) / (b : Int) = _)
  refine ⟨-(((q.nw : Int) - x) / (b : Int)), ?_, ?_, fun l hl => ?_⟩
  · unfold lVal
    rw [Int.neg_mul]
    omega
  · rw [Int.neg_mul]
    omega
  · have h3 : -l * (b : Int) ≤ q.nw - x + 0 := by rw [Int.neg_mul]; omega
    have : -l - 1 < ((q.nw : Int) - x) / (b : Int) := by
      refine Classical.byContradiction fun z => ?_
      have := mul_mono (a := (b : Int)) (by omega) (show ((q.nw : Int) - x) / (b : Int) + 1 ≤ -l by omega)
      omega
    omega
theorem SpOk.rval {q : Spn} (x : Int) : ∃ k : Int, rVal a b x q = q.hi + k * a ∧ (q.ls : Int) + k * b ≤ x ∧ ∀ l : Int, (q.ls : Int) + l * b ≤ x → l ≤ k := by
  have b0 : (0 : Int) < b := by have := S.b1; omega
  obtain ⟨h1, h2⟩ := (div_iff b0).mp (rfl : (x - (q.ls : Int)) / (b : Int) = _)
  refine ⟨(x - (q.ls : Int)) / (b : Int), rfl, by omega, fun l hl => ?_⟩
  refine Classical.byContradiction fun z => ?_
  have := mul_mono (a := (b : Int)) (by omega) (show (x - (q.ls : Int)) / (b : Int) + 1 ≤ l by omega)
  omega
theorem SpOk.lmem (x : Int) : ∃ q ∈ L, ∃ k : Int, lE L a b x = q.lo + k * a ∧ x ≤ q.nw + k * b := by
  obtain ⟨h, _⟩ := minL_ok (l := L.map (lVal a b x)) (by simp [S.ne])
  obtain ⟨q, m, e⟩ := List.mem_map.mp h
  obtain ⟨k, h1, h2, _⟩ := S.lval (q := q) x
  exact ⟨q, m, k, e.symm.trans h1, h2⟩
theorem SpOk.lle {q : Spn} {k x : Int} (m : q ∈ L) (h : x ≤ q.nw + k * b) : lE L a b x ≤ q.lo + k * a := by
  obtain ⟨_, h2⟩ := minL_ok (l := L.map (lVal a b x)) (by simp [S.ne])
  have := h2 _ (List.mem_map_of_mem m)
  obtain ⟨l, e, _, h3⟩ := S.lval (q := q) x
  have := mul_mono (a := (a : Int)) (by omega) (h3 k h)
  show minL _ ≤ _
  omega
theorem SpOk.rmem (x : Int) : ∃ q ∈ L, ∃ k : Int, rE L a b x = q.hi + k * a ∧ (q.ls : Int) + k * b ≤ x := by
  obtain ⟨h, _⟩ := maxL_ok (l := L.map (rVal a b x)) (by simp [S.ne])
  obtain ⟨q, m, e⟩ := List.mem_map.mp h
  obtain ⟨k, h1, h2, _⟩ := S.rval (q := q) x
  exact ⟨q, m, k, e.symm.trans h1, h2⟩
theorem SpOk.rle {q : Spn} {k x : Int} (m : q ∈ L) (h : (q.ls : Int) + k * b ≤ x) : (q.hi : Int) + k * a ≤ rE L a b x := by
  obtain ⟨_, h2⟩ := maxL_ok (l := L.map (rVal a b x)) (by simp [S.ne])
  have := h2 _ (List.mem_map_of_mem m)
  obtain ⟨l, e, _, h3⟩ := S.rval (q := q) x
  have := mul_mono (a := (a : Int)) (by omega) (h3 k h)
  show _ ≤ maxL _
  omega
/-- a repeat more is a repeat more -/
theorem SpOk.lper (x k : Int) : lE L a b (x + k * b) = lE L a b x + k * a := by
  obtain ⟨q, m, l, e, h⟩ := S.lmem x
  obtain ⟨q', m', l', e', h'⟩ := S.lmem (x + k * b)
  have h1 := S.lle (k := l + k) (x := x + k * b) m (by rw [Int.add_mul]; omega)
  have h2 := S.lle (k := l' - k) (x := x) m' (by rw [Int.sub_mul]; omega)
  rw [Int.add_mul] at h1
  rw [Int.sub_mul] at h2
  omega
theorem SpOk.rper (x k : Int) : rE L a b (x + k * b) = rE L a b x + k * a := by
  obtain ⟨q, m, l, e, h⟩ := S.rmem x
  obtain ⟨q', m', l', e', h'⟩ := S.rmem (x + k * b)
  have h1 := S.rle (k := l + k) (x := x + k * b) m (by rw [Int.add_mul]; omega)
  have h2 := S.rle (k := l' - k) (x := x) m' (by rw [Int.sub_mul]; omega)
  rw [Int.add_mul] at h1
  rw [Int.sub_mul] at h2
  omega
theorem SpOk.gap (x : Int) : rE L a b x < lE L a b (x + 1) := by
  obtain ⟨q, m, k, e, h⟩ := S.rmem x
  obtain ⟨p, mp, l, ep, hp⟩ := S.lmem (x + 1)
  refine Classical.byContradiction fun z => ?_
  have o := S.order (k := l) (l := k) mp m (by omega)
  have := (S.ok q m).2.2.2
  omega
theorem SpOk.lmono {x y : Int} (h : x ≤ y) : lE L a b x ≤ lE L a b y := by
  obtain ⟨q, m, k, e, h1⟩ := S.lmem y
  rw [e]
  exact S.lle m (by omega)
theorem SpOk.rmono {x y : Int} (h : x ≤ y) : rE L a b x ≤ rE L a b y := by
  obtain ⟨q, m, k, e, h1⟩ := S.rmem x
  rw [e]
  exact S.rle m (by omega)
/-- something runs iff a stitch lies within -/
theorem SpOk.some_iff {x y : Int} : lE L a b x ≤ rE L a b y ↔ ∃ q ∈ L, ∃ k : Int, x ≤ q.nw + k * b ∧ (q.ls : Int) + k * b ≤ y := by
  constructor
  · intro h
    obtain ⟨p, mp, l, ep, hp⟩ := S.lmem x
    obtain ⟨q, m, k, e, hq⟩ := S.rmem y
    have o := S.order (k := l) (l := k) mp m (by omega)
    exact ⟨p, mp, l, hp, by omega⟩
  · rintro ⟨q, m, k, h1, h2⟩
    have := S.lle m h1
    have := S.rle m h2
    have := (S.ok q m).2.1
    omega
/-- the leftmost stitch within begins at the left end -/
theorem SpOk.lhit {x y : Int} (h : ∃ q ∈ L, ∃ k : Int, x ≤ q.nw + k * b ∧ (q.ls : Int) + k * b ≤ y) : ∃ q ∈ L, ∃ k : Int, x ≤ q.nw + k * b ∧ (q.ls : Int) + k * b ≤ y ∧ lE L a b x = q.lo + k * a := by
  obtain ⟨p, mp, l, ep, hp⟩ := S.lmem x
  obtain ⟨q, m, k, h1, h2⟩ := h
  have := S.lle m h1
  have := (S.ok q m).2.1
  have o := S.order (k := l) (l := k) mp m (by omega)
  exact ⟨p, mp, l, hp, by omega, ep⟩
theorem SpOk.rhit {x y : Int} (h : ∃ q ∈ L, ∃ k : Int, x ≤ q.nw + k * b ∧ (q.ls : Int) + k * b ≤ y) : ∃ q ∈ L, ∃ k : Int, x ≤ q.nw + k * b ∧ (q.ls : Int) + k * b ≤ y ∧ rE L a b y = q.hi + k * a := by
  obtain ⟨p, mp, l, ep, hp⟩ := S.rmem y
  obtain ⟨q, m, k, h1, h2⟩ := h
  have := S.rle m h2
  have := (S.ok q m).2.1
  have o := S.order (k := k) (l := l) m mp (by omega)
  exact ⟨p, mp, l, by omega, hp, ep⟩
end
end MZ
/-! A def held by a local name; ends row by row. -/
namespace MZ
open PySem PySem.Spec PyProof.Rows L2 LK MY
/-- a def that a local name holds is called -/
def tCallV (i : Nat) (f : Addr) (sp : Sp) (dvs : List V) (E : XK) (t : TA) : TE := fun σ H Q => σ[i]? = some (some (.ref f)) ∧ tCall sp dvs E t σ H Q
section
variable {X : Cx} {CX : CXT} {k i : Nat} {f : Addr} {fd : FuncData} {ps : List Str} {sp : Sp} {dvs : List V} {ds : List Value} {E : XK} {x : Str} {p pos : Pos} {e : Expr} {es : List Expr} {t : TA}
theorem pe_callV (F : FnOk X.prog X.w X.K X.mg X.base CX k f fd ps sp) (hr : Room k X.A) (hn : PE X (.Name x p) (tVar i)) (hk : PySem.W.keepIn X.K (.ref f) = true) (hb : Binds X.K fd ps ds) (hd : Vals dvs ds) (hx : Passes CX X E)
    (ha : PA X (e :: es) t) (he : starEach (e :: es) X.env = (false, eval e X.env) :: starEach es X.env := by rfl) (hpl : (backTo pos (starEach es X.env)).any (·.1) = false := by rfl) :
    PE X (.Call (.Name x p) (e :: es) [] pos) (tCallV i f sp dvs E t) := by
  refine ⟨fun pins s σ H Q I h => ?_⟩
  obtain ⟨hi, h⟩ := h
  refine wpAny_Call_Name_kw (thn (hn.run pins s σ H (fun v H' => v = .ref f ∧ H' = H) I ⟨_, hi, rfl, rfl⟩) fun u s1 ⟨v, H1, I1, r1, e1, e2⟩ => ?_)
  subst e1 e2
  obtain rfl : u = Value.ref f := r1
  refine PySem.W.callWith_K (h₀ := X.base) I1.ok.mod.kin hk (thn (ha.run pos pins s1 σ _ _ I1 h) fun us s2 ⟨vs, H2, I2, r, q⟩ => ⟨I2.kIn, ?_⟩) he hpl
  exact run_fn F hr hb hd hx I2 r q
end
/-! ### rows of a chart by their numbers -/
def rwAt (rs : List Rw) (i : Nat) : Rw := (rs[i]?).getD ⟨"", 0, []⟩
def cn (size : Nat) (rs : List Rw) (i : Nat) : Nat := ((cnts size rs)[i]?).getD 1
structure OkCh (size : Nat) (rs : List Rw) : Prop where
  rows : Rows size rs size
  cc : ∀ z ∈ cnts size rs, 1 ≤ z ∧ z ≤ 1000
  rl : 1 ≤ rs.length ∧ rs.length ≤ 1000
theorem OkCh.row {size : Nat} {rs : List Rw} (h : OkCh size rs) {i : Nat} (il : i < rs.length) : rs[i]? = some (rwAt rs i) ∧ OkRow (cn size rs i) (rwAt rs i) ∧ drs (rwAt rs i).sts = cn size rs (i + 1) ∧ (cnts size rs)[i]? = some (cn size rs i) ∧ (cnts size rs)[i + 1]? = some (cn size rs (i + 1)) := by
  have e : rs[i]? = some (rwAt rs i) := by
    unfold rwAt
    rw [List.getElem?_eq_getElem il]
    rfl
  obtain ⟨a, h1, h2, h3⟩ := rows_at h.rows e
  have c1 : cn size rs i = a := by unfold cn; rw [h1]; rfl
  have c2 : cn size rs (i + 1) = drs (rwAt rs i).sts := by unfold cn; rw [h2]; rfl
  rw [c1, c2]
  exact ⟨e, h3, rfl, h1, h2⟩
theorem OkCh.cn1 {size : Nat} {rs : List Rw} (h : OkCh size rs) (i : Nat) : 1 ≤ cn size rs i ∧ cn size rs i ≤ 1000 := by
  unfold cn
  cases e : (cnts size rs)[i]? with
  | none => exact ⟨Nat.le_refl _, by decide⟩
  | some a => exact h.cc a (List.mem_of_getElem? e)
theorem OkCh.wrap {size : Nat} {rs : List Rw} (h : OkCh size rs) : cn size rs rs.length = size ∧ cn size rs 0 = size := by
  constructor
  · unfold cn
    rw [cnts_end h.rows]
    rfl
  · rfl
theorem OkCh.sp {size : Nat} {rs : List Rw} (h : OkCh size rs) {i : Nat} (il : i < rs.length) : SpOk (spR (rwAt rs i)) (rwAt rs i).off (cn size rs i) (cn size rs (i + 1)) := by
  obtain ⟨_, h1, h2, _⟩ := h.row il
  rw [← h2]
  exact h1.sp
theorem OkCh.few {size : Nat} {rs : List Rw} (h : OkCh size rs) : ∀ r ∈ rs, r.sts.length ≤ 1000 := fun r m => by
  obtain ⟨i, hi⟩ := List.getElem?_of_mem m
  obtain ⟨a, c1, c2, ok⟩ := rows_at h.rows hi
  have := ok.sts.len
  have := (h.cc _ (List.mem_of_getElem? c2)).2
  omega
/-- the ends in the row below -/
def lEnd (size : Nat) (rs : List Rw) (i : Nat) (x : Int) : Int := lE (spR (rwAt rs i)) (cn size rs i) (cn size rs (i + 1)) x
def rEnd (size : Nat) (rs : List Rw) (i : Nat) (x : Int) : Int := rE (spR (rwAt rs i)) (cn size rs i) (cn size rs (i + 1)) x
/-- the next row, up or down -/
def nxR (n : Nat) (up : Bool) (i : Nat) : Nat := if up then (i + 1) % n else (i + n - 1) % n
/-- row by row -/
def walkD (n : Nat) (st : Nat → Int → Int) (up : Bool) : Nat → Nat → Int → Int
  | 0, _, x => x
  | k + 1, i, x => walkD n st up k (nxR n up i) (st i x)
def rowD (n : Nat) (up : Bool) : Nat → Nat → Nat
  | 0, i => i
  | k + 1, i => rowD n up k (nxR n up i)
theorem nxR_lt {n : Nat} (h : 0 < n) (up : Bool) (i : Nat) : nxR n up i < n := by
  unfold nxR
  split <;> exact Nat.mod_lt _ h
theorem rowD_lt {n : Nat} (up : Bool) : ∀ (k i : Nat), i < n → rowD n up k i < n
  | 0, i, h => h
  | k + 1, i, h => rowD_lt up k _ (nxR_lt (by omega) up i)
theorem rowD_up {n : Nat} : ∀ (k i : Nat), i < n → rowD n true k i = (i + k) % n
  | 0, i, h => (Nat.mod_eq_of_lt h).symm
  | k + 1, i, h => by
    have := rowD_up k (nxR n true i) (nxR_lt (by omega) _ _)
    show rowD n true k (nxR n true i) = _
    rw [this]
    unfold nxR
    rw [if_pos rfl, Nat.mod_add_mod]
    congr 1
    omega
theorem rowD_down {n : Nat} : ∀ (k i : Nat), i < n → k ≤ n → rowD n false k i = (i + n - k) % n
  | 0, i, h, _ => by
    show i = _
    rw [Nat.sub_zero, Nat.add_mod_right, Nat.mod_eq_of_lt h]
  | k + 1, i, h, hk => by
    have := rowD_down k (nxR n false i) (nxR_lt (by omega) _ _) (by omega)
    show rowD n false k (nxR n false i) = _
    rw [this]
    unfold nxR
    rw [if_neg (by decide)]
    by_cases z : i = 0
    · subst z
      rw [show 0 + n - 1 = n - 1 by omega, Nat.mod_eq_of_lt (show n - 1 < n by omega), show n - 1 + n - k = (0 + n - (k + 1)) + n by omega, Nat.add_mod_right]
    · rw [show i + n - 1 = (i - 1) + n by omega, Nat.add_mod_right, Nat.mod_eq_of_lt (show i - 1 < n by omega)]
      congr 1
      omega
theorem rowD_round {n : Nat} (up : Bool) {i : Nat} (h : i < n) : rowD n up n i = i := by
  cases up with
  | true => rw [rowD_up n i h, Nat.add_mod_right, Nat.mod_eq_of_lt h]
  | false => rw [rowD_down n i h (Nat.le_refl _), Nat.add_sub_cancel, Nat.mod_eq_of_lt h]
theorem walkD_add {n : Nat} {st : Nat → Int → Int} {up : Bool} : ∀ (k l i : Nat) (x : Int), walkD n st up (k + l) i x = walkD n st up l (rowD n up k i) (walkD n st up k i x)
  | 0, l, i, x => by rw [Nat.zero_add]; rfl
  | k + 1, l, i, x => by
    rw [show k + 1 + l = (k + l) + 1 by omega]
    exact walkD_add k l _ _
/-- a repeat more is a repeat more -/
def Per (n : Nat) (st : Nat → Int → Int) (up : Bool) (c : Nat → Nat) : Prop := ∀ i, i < n → ∀ (x k : Int), st i (x + k * c i) = st i x + k * c (nxR n up i)
theorem walkD_per {n : Nat} {st : Nat → Int → Int} {up : Bool} {c : Nat → Nat} (h : Per n st up c) : ∀ (k i : Nat) (x m : Int), i < n → walkD n st up k i (x + m * c i) = walkD n st up k i x + m * c (rowD n up k i)
  | 0, i, x, m, _ => rfl
  | k + 1, i, x, m, il => by
    show walkD n st up k (nxR n up i) (st i (x + m * c i)) = walkD n st up k (nxR n up i) (st i x) + m * c (rowD n up k (nxR n up i))
    rw [h i il x m]
    exact walkD_per h k _ _ m (nxR_lt (by omega) up i)
def itr (T : Int → Int) : Nat → Int → Int
  | 0, x => x
  | k + 1, x => itr T k (T x)
theorem itr_add (T : Int → Int) : ∀ (k l : Nat) (x : Int), itr T (k + l) x = itr T l (itr T k x)
  | 0, l, x => by rw [Nat.zero_add]; rfl
  | k + 1, l, x => by
    rw [show k + 1 + l = (k + l) + 1 by omega]
    exact itr_add T k l _
theorem itr_two (T : Int → Int) : ∀ (k : Nat) (x : Int), itr (fun y => T (T y)) k x = itr T (2 * k) x
  | 0, x => rfl
  | k + 1, x => by
    rw [show 2 * (k + 1) = 2 * k + 1 + 1 by omega]
    exact itr_two T k _
def Per1 (c : Nat) (T : Int → Int) : Prop := ∀ x k : Int, T (x + k * c) = T x + k * c
theorem Per1.two {c : Nat} {T : Int → Int} (h : Per1 c T) : Per1 c fun y => T (T y) := fun x k => by
  show T (T (x + k * c)) = _
  rw [h x k, h]
theorem walkD_round {n : Nat} {st : Nat → Int → Int} {up : Bool} {i : Nat} (il : i < n) : ∀ (t : Nat) (x : Int), walkD n st up (n * t) i x = itr (fun y => walkD n st up n i y) t x ∧ rowD n up (n * t) i = i
  | 0, x => by
    rw [Nat.mul_zero]
    exact ⟨rfl, rfl⟩
  | t + 1, x => by
    have r2 : ∀ (a b : Nat), rowD n up (a + b) i = rowD n up b (rowD n up a i) := fun a b => by
      have gen : ∀ (a b i : Nat), rowD n up (a + b) i = rowD n up b (rowD n up a i) := fun a => by
        induction a with
        | zero => intro b i; rw [Nat.zero_add]; rfl
        | succ a ih => intro b i; rw [show a + 1 + b = (a + b) + 1 by omega]; exact ih b _
      exact gen a b i
    rw [Nat.mul_succ, Nat.add_comm (n * t) n]
    constructor
    · rw [walkD_add, rowD_round up il, (walkD_round (st := st) il t _).1]
      rfl
    · rw [r2, rowD_round up il, (walkD_round (st := st) il t x).2]
theorem round_per {n : Nat} {st : Nat → Int → Int} {up : Bool} {c : Nat → Nat} (h : Per n st up c) {i : Nat} (il : i < n) : Per1 (c i) fun y => walkD n st up n i y := fun x k => by
  have := walkD_per h n i x k il
  rw [rowD_round up il] at this
  exact this
/-- any number of rows: whole rounds, and the rest -/
theorem walkD_far {n : Nat} {st : Nat → Int → Int} {up : Bool} {i : Nat} (il : i < n) (t r : Nat) (x : Int) : walkD n st up (n * t + r) i x = walkD n st up r i (itr (fun y => walkD n st up n i y) t x) := by
  rw [walkD_add, (walkD_round (st := st) il t x).1, (walkD_round (st := st) il t x).2]
theorem lEnd_per {size : Nat} {rs : List Rw} (h : OkCh size rs) : Per rs.length (lEnd size rs) false (fun i => cn size rs (i + 1)) := fun i il x k => by
  unfold lEnd
  rw [(h.sp il).lper x k]
  congr 3
  unfold nxR
  rw [if_neg (by decide)]
  by_cases z : i = 0
  · subst z
    rw [show 0 + rs.length - 1 = rs.length - 1 by omega, Nat.mod_eq_of_lt (show rs.length - 1 < rs.length by omega)]
    show cn size rs 0 = cn size rs (rs.length - 1 + 1)
    rw [show rs.length - 1 + 1 = rs.length by omega, h.wrap.1, h.wrap.2]
  · rw [show i + rs.length - 1 = (i - 1) + rs.length by omega, Nat.add_mod_right, Nat.mod_eq_of_lt (show i - 1 < rs.length by omega)]
    show cn size rs i = cn size rs (i - 1 + 1)
    rw [show i - 1 + 1 = i by omega]
theorem rEnd_per {size : Nat} {rs : List Rw} (h : OkCh size rs) : Per rs.length (rEnd size rs) false (fun i => cn size rs (i + 1)) := fun i il x k => by
  unfold rEnd
  rw [(h.sp il).rper x k]
  congr 3
  unfold nxR
  rw [if_neg (by decide)]
  by_cases z : i = 0
  · subst z
    rw [show 0 + rs.length - 1 = rs.length - 1 by omega, Nat.mod_eq_of_lt (show rs.length - 1 < rs.length by omega)]
    show cn size rs 0 = cn size rs (rs.length - 1 + 1)
    rw [show rs.length - 1 + 1 = rs.length by omega, h.wrap.1, h.wrap.2]
  · rw [show i + rs.length - 1 = (i - 1) + rs.length by omega, Nat.add_mod_right, Nat.mod_eq_of_lt (show i - 1 < rs.length by omega)]
    show cn size rs i = cn size rs (i - 1 + 1)
    rw [show i - 1 + 1 = i by omega]
end MZ
/-! spans -/
namespace S8
open PySem PySem.Spec PyProof.Rows L2 LK MXi MY MZ
def sD (q : Spn) : PyData := .tuple [.int (q.lo : Int), .int (q.hi : Int), .int (q.nw : Int), .int (q.ls : Int)]
theorem noLs_sD (qs : List Spn) : noLs (qs.map sD) = true := noLs_iff.mpr fun d hd => by
  obtain ⟨s, _, rfl⟩ := List.mem_map.mp hd
  rfl
theorem sd_tup {K : PySem.W.Frag} {H : Hp} {v : V} {q : Spn} (h : Dp K H v (sD q)) : ∃ a, v = .ref a ∧ SqT K H a [.int (q.lo : Int), .int (q.hi : Int), .int (q.nw : Int), .int (q.ls : Int)] := by
  cases h with
  | tup q' r =>
    obtain rfl := ints_back (ns := [(q.lo : Int), (q.hi : Int), (q.nw : Int), (q.ls : Int)]) r
    exact ⟨_, rfl, q'⟩
def spCrw : Sp := fun vs H Q _ => ∃ (i n : Nat), vs = [.int i, .int n] ∧ i < n ∧ ∀ H', Same H H' → Q .non H'
def spCwd : Sp := fun vs H Q _ => ∃ (i n : Int), vs = [.int i, .int n] ∧ n ≤ i ∧ ∀ H', Same H H' → Q .non H'
def spSpa (K : PySem.W.Frag) (CC : Addr) : Sp := fun vs H Q _ => ∃ (x : Addr) (i size : Nat) (rs : List Rw), vs = [.ref x, .int i] ∧ IsH K CC H x size rs ∧ OkCh size rs ∧ i < rs.length ∧
  ∀ (p : Addr) (H' : Hp) (zs : List V), H p = none → Same H H' → H' p = some (.lst zs) → DpAll K H' zs ((spR (rwAt rs i)).map sD) → Q (.ref p) H'
section
variable {P : Program} {w : World} {K : PySem.W.Frag} {mg : Str → Option Value} {base : Heap}
abbrev sCrw : Stmt := top 14
theorem scCrw : FnScope ["row", "many"] ["row", "many"] (defScope sCrw) := ⟨rfl, rfl, rfl, by decide +kernel, rfl, by decide +kernel, by decide +kernel⟩
theorem ok_Crw {f : Addr} {fd : FuncData} (F : Fun K "check_row" "check_row" sCrw f fd) (B : Bl mg)
    {f_is_number : Addr} {d_is_number : FuncData} (G_is_number : FnOk P w K mg base CX0 2 f_is_number d_is_number ["value", "many"] (spNum K)) (g_is_number : mg "is_number" = some (.ref f_is_number)) (k_is_number : PySem.W.keepIn K (.ref f_is_number) = true) (b_is_number : Binds K d_is_number ["value", "many"] []) : FnOk P w K mg base CX0 3 f fd ["row", "many"] spCrw := by
  refine F.ok scCrw (fun vs H Q E h => ?_) (fun cdv A outer s H vs Q E hr h => ?_)
  · obtain ⟨i, n, rfl, _⟩ := h
    rfl
  · obtain ⟨i, n, rfl, h1, k⟩ := h
    refine ⟨_, pss_one (ps_if (pt_not (pt_val (pe_call (E := E0) G_is_number (hr.mono (by decide)) rfl g_is_number k_is_number b_is_number .nil pass0 (pa_cons (pv 0) (pa_cons (pv 1) pa_nil))))) pss_never pss_nil), ?_⟩
    refine ⟨_, rfl, _, rfl, _, _, _, rfl, .int _, fun H1 s1 => ⟨_, rfl, ?_⟩⟩
    rw [show isNumD (n : Int) (.int (i : Int)) = true by rw [isNumD]; exact decide_eq_true ⟨by omega, by omega⟩]
    exact LK.ifF rfl (k H1 s1)
abbrev sCwd : Stmt := top 15
theorem scCwd : FnScope ["width", "least"] ["width", "least"] (defScope sCwd) := ⟨rfl, rfl, rfl, by decide +kernel, rfl, by decide +kernel, by decide +kernel⟩
theorem ok_Cwd {f : Addr} {fd : FuncData} (F : Fun K "check_width" "check_width" sCwd f fd) (B : Bl mg)
    {f_is_integer : Addr} {d_is_integer : FuncData} (G_is_integer : FnOk P w K mg base CX0 1 f_is_integer d_is_integer ["value"] (spInt K)) (g_is_integer : mg "is_integer" = some (.ref f_is_integer)) (k_is_integer : PySem.W.keepIn K (.ref f_is_integer) = true) (b_is_integer : Binds K d_is_integer ["value"] []) : FnOk P w K mg base CX0 2 f fd ["width", "least"] spCwd := by
  refine F.ok scCwd (fun vs H Q E h => ?_) (fun cdv A outer s H vs Q E hr h => ?_)
  · obtain ⟨i, n, rfl, _⟩ := h
    rfl
  · obtain ⟨i, n, rfl, h1, k⟩ := h
    refine ⟨_, pss_one (ps_if (PW.pt (pw_or (pt_not (pt_val (pe_call (E := E0) G_is_integer (hr.mono (by decide)) rfl g_is_integer k_is_integer b_is_integer .nil pass0 (pa_cons (pv 0) pa_nil)))) (pw_or1 (pt_cmpR op_lt (pv 0) (pv 1) (nomark _))))) pss_never pss_nil), ?_⟩
    refine ⟨_, rfl, _, _, rfl, .int i, fun H1 s1 => ⟨_, rfl, LK.ifF rfl ⟨_, rfl, _, rfl, _, _, rfl, rfl, _, rfl, LK.ifF (decide_eq_false (by omega)) (k H1 s1)⟩⟩⟩
abbrev sSpa : Stmt := top 17
theorem scSpa : FnScope ["chart", "row", "_", "offset", "stitches", "found", "low", "new", "many", "drawn"] ["chart", "row"] (defScope sSpa) := ⟨rfl, rfl, rfl, by decide +kernel, rfl, by decide +kernel, by decide +kernel⟩
theorem ok_Spa {f : Addr} {fd : FuncData} (F : Fun K "spans" "spans" sSpa f fd) (B : Bl mg) {CC : Addr} (N : Ch2 P w K mg base CC) : FnOk P w K mg base CX0 3 f fd ["chart", "row"] (spSpa K CC) := by
  refine F.ok scSpa (fun vs H Q E h => ?_) (fun cdv A outer s H vs Q E hr h => ?_)
  · obtain ⟨x, i, size, rs, rfl, _⟩ := h
    rfl
  · obtain ⟨x, i, size, rs, rfl, hx, ok, il, k⟩ := h
    refine ⟨_, pss_cons (ps_asg (pe_ix ix_list (pe_prop (pv 0) N.cc N.aR N.oR (hr.mono (by decide)) N.bR .nil pass0 (by rfl)) (pv 1) (fun _ _ => rfl)) (pg_tup rfl (pgs_cons (pg_name (i := 2) scSpa.nd rfl (Or.inl rfl)) (pgs_cons (pg_name (i := 3) scSpa.nd rfl (Or.inl rfl)) (pgs_cons (pg_name (i := 4) scSpa.nd rfl (Or.inl rfl)) pgs_nil)))))
      (pss_cons (ps_par3 (i := 5) (j := 6) (l := 7) rfl scSpa.nd rfl rfl rfl (by decide) (by decide) (by decide) rfl rfl rfl (pa_cons (pe_lst pa_nil) (pa_cons (pv 3) (pa_cons pe_int pa_nil))) (by rfl))
      (pss_cons (ps_for PassesOwn.never rfl (pi_tup (pv 4)) (pg_tup rfl (pgs_cons (pg_name (i := 8) scSpa.nd rfl (Or.inl rfl)) (pgs_cons (pg_name (i := 9) scSpa.nd rfl (Or.inl rfl)) pgs_nil))) (pss_cons (ps_if (pt_cmpR op_gt (pv 8) pe_int (nomark _)) (pss_one (ps_expr (pe_bm PySem.F.plainAttrs_list PySem.F.slot_list_append PySem.F.type_list_append mt_append (pv 5) (pa_cons (pe_tup (pa_cons (pv 6) (pa_cons (pe_op op_sub (pe_op op_add (pv 6) (pv 8)) pe_int) (pa_cons (pv 7) (pa_cons (pe_op op_sub (pe_op op_add (pv 7) (pv 9)) pe_int) pa_nil))))) pa_nil)))) pss_nil)
      (pss_one (ps_par (i := 6) (j := 7) rfl scSpa.nd rfl rfl (by decide) rfl rfl (pa_cons (pe_op op_add (pv 6) (pv 8)) (pa_cons (pe_op op_add (pv 7) (pv 9)) pa_nil)) (by rfl)))))
      (pss_one (ps_ret (pv 5))))), ?_⟩
    have ty2 : sizeLine = 16777216 := sizeLine_eq
    obtain ⟨er, okr, _⟩ := ok.row il
    have few := ok.few _ (List.mem_of_getElem? er)
    obtain ⟨dx, Lr, G, xs, ix, iL, iD, iG⟩ := id hx
    refine ⟨_, rfl, x, dx, _, rfl, ix, x, size, rs, rfl, hx, fun p xs' np dL => ?_⟩
    have t1 := same_new (o := .lst xs') np
    have e1 := upd_same (H := H) (a := p) (o := .lst xs')
    have dL1 := dps_same t1 dL
    generalize upd H p (.lst xs') = H1 at t1 e1 dL1
    have xl := dps_len dL1
    rw [List.length_map] at xl
    obtain ⟨v, hv⟩ : ∃ v, xs'[i]? = some v := ⟨_, List.getElem?_eq_getElem (by omega)⟩
    have dv := dps_get dL1 hv (by rw [List.getElem?_map, er]; rfl)
    obtain ⟨ax, axs, rfl, hax, dax⟩ : ∃ (ax : Addr) (axs : List V), v = .ref ax ∧ SqT K H1 ax axs ∧ DpAll K H1 axs [.str (rwAt rs i).nm, .int ((rwAt rs i).off : Int), .tuple ((rwAt rs i).sts.map stD)] := by
      cases dv with
      | tup q r => exact ⟨_, _, rfl, q, r⟩
    obtain ⟨b, ws, rfl, hw, dw⟩ : ∃ (b : Addr) (ws : List V), axs = [.str (rwAt rs i).nm, .int ((rwAt rs i).off : Int), .ref b] ∧ SqT K H1 b ws ∧ DpAll K H1 ws ((rwAt rs i).sts.map stD) := by
      cases dax with
      | cons d1 dx =>
        cases d1
        cases dx with
        | cons d2 dx =>
          cases d2
          cases dx with
          | cons d3 dx =>
            cases dx
            cases d3 with
            | tup q r => exact ⟨_, _, rfl, q, r⟩
    have wl := dps_len dw
    rw [List.length_map] at wl
    refine ⟨_, rfl, p, _, (i : Int), _, rfl, rfl, SqL.of e1, atI_nat hv, ax, _, rfl, hax, rfl, ?_⟩
    refine ⟨_, _, rfl, _, _, rfl, _, _, rfl, rfl, ?_⟩
    dsimp only [gName, gCons, gNil, List.set, tSeq]
    refine ⟨by show 0 ≤ sizeLine; decide, fun D nD => ?_⟩
    refine ⟨_, rfl, _, _, _, rfl, ?_⟩
    have nD0 := gone t1 nD
    have t2 := same_new (o := .lst []) nD
    have e2 := upd_same (H := H1) (a := D) (o := .lst [])
    have hw2 := same_tup t2 hw
    have dw2 := dps_same t2 dw
    have t02 := t1.trans t2
    generalize upd H1 D (.lst []) = H2 at t2 e2 hw2 dw2 t02
    dsimp only [gName, List.set, tSeq]
    refine stJ (fun σ Hn => ∃ (zs : List V) (o2 o3 o4 o6 o7 o8 o9 : Option V), σ = [some (.ref x), some (.int (i : Int)), o2, o3, o4, some (.ref D), o6, o7, o8, o9] ∧ Hn D = some (.lst zs) ∧ DpAll K Hn zs ((spR (rwAt rs i)).map sD) ∧ Same H Hn) (fun D' aft => ?_) ?_
    · refine ⟨_, rfl, b, rfl, ⟨_, hw2⟩, ?_⟩
      refine for_tup (K := K) (a := b) (xs := ws) (fun j σ Hn => ∃ (zs : List V) (o2 o3 o4 o8 o9 : Option V), σ = [some (.ref x), some (.int (i : Int)), o2, o3, o4, some (.ref D), some (.int (((rwAt rs i).off + tks ((rwAt rs i).sts.take j) : Nat) : Int)), some (.int ((drs ((rwAt rs i).sts.take j) : Nat) : Int)), o8, o9] ∧ Hn D = some (.lst zs) ∧ DpAll K Hn zs ((spn (rwAt rs i).off 0 ((rwAt rs i).sts.take j)).map sD) ∧ Same H Hn ∧ DpAll K Hn ws ((rwAt rs i).sts.map stD) ∧ SqT K Hn b ws ∧ zs.length ≤ j)
        ⟨[], _, _, _, _, _, rfl, e2, .nil, t02, dw2, hw2, Nat.le_refl _⟩ (fun j σ Hn hj hI => by obtain ⟨_, _, _, _, _, _, _, _, _, _, _, h, _⟩ := hI; exact h) (fun j v σ Hn hv2 hI => ?_) (fun σ Hn hI => ?_)
      · obtain ⟨zs, o2, o3, o4, o8, o9, rfl, eD, dz, sH, dwn, hwn, zl⟩ := hI
        have jl := (List.getElem?_eq_some_iff.mp hv2).1
        obtain ⟨s, hs⟩ : ∃ s, (rwAt rs i).sts[j]? = some s := ⟨_, List.getElem?_eq_getElem (by omega)⟩
        have s1 := (okr.sts.ok s (List.mem_of_getElem? hs)).2.1
        obtain ⟨q, rfl, hq⟩ := st_tup (dps_get dwn hv2 (by rw [List.getElem?_map, hs]; rfl))
        have tk1 : (rwAt rs i).sts.take (j + 1) = (rwAt rs i).sts.take j ++ [s] := by
          rw [List.take_add_one, hs]
          rfl
        have tks1 : tks ((rwAt rs i).sts.take (j + 1)) = tks ((rwAt rs i).sts.take j) + s.1 := by
          rw [tk1, tks_app]
          rfl
        have drs1 : drs ((rwAt rs i).sts.take (j + 1)) = drs ((rwAt rs i).sts.take j) + s.2 := by
          rw [tk1, drs_app]
          rfl
        have spn1 : spn (rwAt rs i).off 0 ((rwAt rs i).sts.take (j + 1)) = spn (rwAt rs i).off 0 ((rwAt rs i).sts.take j) ++ if 0 < s.1 then [⟨(rwAt rs i).off + tks ((rwAt rs i).sts.take j), (rwAt rs i).off + tks ((rwAt rs i).sts.take j) + s.1 - 1, drs ((rwAt rs i).sts.take j), drs ((rwAt rs i).sts.take j) + s.2 - 1⟩] else [] := by
          rw [tk1, spn_app, Nat.zero_add]
          show _ ++ ((if 0 < s.1 then _ else []) ++ []) = _
          rw [List.append_nil]
        rw [tks1, drs1, spn1]
        generalize tks ((rwAt rs i).sts.take j) = tt
        generalize drs ((rwAt rs i).sts.take j) = dd
        generalize spn (rwAt rs i).off 0 ((rwAt rs i).sts.take j) = SS at dz ⊢
        refine ⟨q, _, rfl, hq, rfl, ?_⟩
        refine ⟨_, _, rfl, _, _, rfl, rfl, ?_⟩
        dsimp only [gName, gCons, gNil, List.set, tSeq]
        refine stJ (fun σ Hm => σ = [some (.ref x), some (.int (i : Int)), o2, o3, o4, some (.ref D), some (.int (((rwAt rs i).off + tt : Nat) : Int)), some (.int (dd : Int)), some (.int (s.1 : Int)), some (.int (s.2 : Int))] ∧ ∃ zs' : List V, Hm D = some (.lst zs') ∧ DpAll K Hm zs' ((SS ++ if 0 < s.1 then [Spn.mk ((rwAt rs i).off + tt) ((rwAt rs i).off + tt + s.1 - 1) dd (dd + s.2 - 1)] else []).map sD) ∧ Same H Hm ∧ DpAll K Hm ws ((rwAt rs i).sts.map stD) ∧ SqT K Hm b ws ∧ zs'.length ≤ j + 1) (fun D' aft => ?_) ?_
        · refine ⟨_, rfl, _, _, rfl, rfl, _, rfl, ?_⟩
          by_cases c : 0 < s.1
          · refine LK.ifT (decide_eq_true (by omega)) ?_
            rw [if_pos c] at aft
            refine ⟨_, rfl, .inl ⟨rfl, _, SqL.of eD⟩, ?_⟩
            refine ⟨_, rfl, _, rfl, _, rfl, _, _, rfl, rfl, _, _, rfl, rfl, _, rfl, _, rfl, _, rfl, _, _, rfl, rfl, _, _, rfl, rfl, by show 4 ≤ sizeLine; decide, fun u nu => ?_⟩
            refine ⟨D, _, _, rfl, rfl, same_new nu _ _ eD, by omega, ?_⟩
            have tu := same_new (o := .tup [.int (((rwAt rs i).off + tt : Nat) : Int), .int ((((rwAt rs i).off + tt : Nat) : Int) + (s.1 : Int) - 1), .int (dd : Int), .int ((dd : Int) + (s.2 : Int) - 1)]) nu
            have eu := upd_same (H := Hn) (a := u) (o := .tup [.int (((rwAt rs i).off + tt : Nat) : Int), .int ((((rwAt rs i).off + tt : Nat) : Int) + (s.1 : Int) - 1), .int (dd : Int), .int ((dd : Int) + (s.2 : Int) - 1)])
            have Du : D ≠ u := ne_none eD nu
            have tlo : Tl Hn (upd (upd Hn u (.tup [.int (((rwAt rs i).off + tt : Nat) : Int), .int ((((rwAt rs i).off + tt : Nat) : Int) + (s.1 : Int) - 1), .int (dd : Int), .int ((dd : Int) + (s.2 : Int) - 1)])) D (.lst (zs ++ [.ref u]))) := (Tl.same tu).trans (Tl.own (tu _ _ eD))
            refine aft _ _ ⟨rfl, zs ++ [.ref u], upd_same, ?_, ?_, dps_tl tlo (noLs_sts _) dwn, sqT_tl tlo hwn, by rw [List.length_append, List.length_singleton]; omega⟩
            · rw [List.map_append]
              refine dps_app (dps_tl tlo (noLs_sD _) dz) (.cons (.tup (xs := [.int (((rwAt rs i).off + tt : Nat) : Int), .int (((rwAt rs i).off + tt + s.1 - 1 : Nat) : Int), .int (dd : Int), .int ((dd + s.2 - 1 : Nat) : Int)]) (SqT.of ?_) (.cons (.int _) (.cons (.int _) (.cons (.int _) (.cons (.int _) .nil))))) .nil)
              rw [upd_ne Du.symm]
              rw [show (((rwAt rs i).off + tt + s.1 - 1 : Nat) : Int) = (((rwAt rs i).off + tt : Nat) : Int) + (s.1 : Int) - 1 by omega, show ((dd + s.2 - 1 : Nat) : Int) = (dd : Int) + (s.2 : Int) - 1 by omega]
              exact eu
            · intro b' o e
              rw [upd_ne (ne_none e nD0)]
              exact tu _ _ (sH _ _ e)
          · refine LK.ifF (decide_eq_false (by omega)) ?_
            rw [if_neg c] at aft
            exact aft _ _ ⟨rfl, zs, eD, by rw [List.append_nil]; exact dz, sH, dwn, hwn, by omega⟩
        rintro σ Hm ⟨rfl, zs', eD', dz', sH', dwn', hwn', zl'⟩
        dsimp only [tSeq]
        refine ⟨_, rfl, _, rfl, _, _, rfl, rfl, _, rfl, _, rfl, _, _, rfl, rfl, _, _, rfl, ?_⟩
        refine ⟨zs', o2, o3, o4, some (.int (s.1 : Int)), some (.int (s.2 : Int)), ?_, eD', dz', sH', dwn', hwn', zl'⟩
        dsimp only [List.set]
        rw [show (((rwAt rs i).off + (tt + s.1) : Nat) : Int) = (((rwAt rs i).off + tt : Nat) : Int) + (s.1 : Int) by omega, show ((dd + s.2 : Nat) : Int) = (dd : Int) + (s.2 : Int) by omega]
      · obtain ⟨zs, o2, o3, o4, o8, o9, rfl, eD, dz, sH, dwn, hwn, zl⟩ := hI
        rw [List.take_of_length_le (by omega)] at dz
        exact aft _ _ ⟨zs, _, _, _, _, _, _, _, rfl, eD, dz, sH⟩
    rintro σ Hn ⟨zs, o2, o3, o4, o6, o7, o8, o9, rfl, eD, dz, sH⟩
    exact ⟨_, rfl, k D Hn zs nD0 sH eD dz⟩
end
end S8
/-! left_end, right_end -/
namespace S8
open PySem PySem.Spec PyProof.Rows L2 LK MXi MY MZ
theorem drop2 {α : Type} {l : List α} {i : Nat} {a b : α} (h1 : l[i]? = some a) (h2 : l[i + 1]? = some b) : (l.drop i).take 2 = [a, b] := by
  have e1 := List.drop_eq_getElem_cons (List.getElem?_eq_some_iff.mp h1).1
  have e2 := List.drop_eq_getElem_cons (List.getElem?_eq_some_iff.mp h2).1
  rw [e1, e2, (List.getElem?_eq_some_iff.mp h1).2, (List.getElem?_eq_some_iff.mp h2).2]
  rfl
theorem spn_len : ∀ (ss : List Sti) (lo nw : Nat), (spn lo nw ss).length ≤ ss.length
  | [], _, _ => Nat.le_refl _
  | s :: r, lo, nw => by
    have := spn_len r (lo + s.1) (nw + s.2)
    unfold spn
    rw [List.length_append, List.length_cons]
    split
    · rw [List.length_singleton]; omega
    · rw [List.length_nil]; omega
/-- one step: the row below or above -/
def spStp (K : PySem.W.Frag) (CC : Addr) (st : Nat → List Rw → Nat → Int → Int) : Sp := fun vs H Q _ => ∃ (x : Addr) (i : Nat) (z : Int) (size : Nat) (rs : List Rw), vs = [.ref x, .int i, .int z] ∧ IsH K CC H x size rs ∧ OkCh size rs ∧ i < rs.length ∧ ∀ H', Same H H' → Q (.int (st size rs i z)) H'
section
variable {P : Program} {w : World} {K : PySem.W.Frag} {mg : Str → Option Value} {base : Heap}
abbrev sLfe : Stmt := top 18
theorem scLfe : FnScope ["chart", "row", "number", "ahead", "behind", "low", "_", "new"] ["chart", "row", "number"] (defScope sLfe) := ⟨rfl, rfl, rfl, by decide +kernel, rfl, by decide +kernel, by decide +kernel⟩
theorem ok_Lfe {f : Addr} {fd : FuncData} (F : Fun K "left_end" "left_end" sLfe f fd) (B : Bl mg) {CC : Addr} (N : Ch2 P w K mg base CC)
    {f_check_row : Addr} {d_check_row : FuncData} (G_check_row : FnOk P w K mg base CX0 3 f_check_row d_check_row ["row", "many"] spCrw) (g_check_row : mg "check_row" = some (.ref f_check_row)) (k_check_row : PySem.W.keepIn K (.ref f_check_row) = true) (b_check_row : Binds K d_check_row ["row", "many"] [])
    {f_spans : Addr} {d_spans : FuncData} (G_spans : FnOk P w K mg base CX0 3 f_spans d_spans ["chart", "row"] (spSpa K CC)) (g_spans : mg "spans" = some (.ref f_spans)) (k_spans : PySem.W.keepIn K (.ref f_spans) = true) (b_spans : Binds K d_spans ["chart", "row"] []) : FnOk P w K mg base CX0 4 f fd ["chart", "row", "number"] (spStp K CC lEnd) := by
  refine F.ok scLfe (fun vs H Q E h => ?_) (fun cdv A outer s H vs Q E hr h => ?_)
  · obtain ⟨x, i, z, size, rs, rfl, _⟩ := h
    rfl
  · obtain ⟨x, i, z, size, rs, rfl, hx, ok, il, k⟩ := h
    refine ⟨_, pss_cons (ps_expr (pe_call (E := E0) G_check_row (hr.mono (by decide)) rfl g_check_row k_check_row b_check_row .nil pass0 (pa_cons (pv 1) (pa_cons (pe_callB (call_lenO (E := E0) N.aN N.oN (hr.mono (by decide)) N.bN pass0) (by rfl) (B "len" (by decide)) (by decide +kernel) (pa_cons (pv 0) pa_nil)) pa_nil))))
      (pss_cons (ps_asg (pe_slice sl_list (pe_prop (pv 0) N.cc N.aK N.oK (hr.mono (by decide)) N.bK .nil pass0 (by rfl)) (po_some (pv 1)) (po_some (pe_op op_add (pv 1) pe_int))) (pg_lst rfl (pgs_cons (pg_name (i := 3) scLfe.nd rfl (Or.inr rfl)) (pgs_cons (pg_name (i := 4) scLfe.nd rfl (Or.inr rfl)) pgs_nil))))
      (pss_one (ps_ret (pe_callB (cr_min rfl) (by rfl) (B "min" (by decide)) (by decide +kernel) (pa_cons (pe_lc (own := [("low", 5), ("_", 6), ("new", 7)]) (g := (gTup K 4 (gCons (gName 5) (gCons (gName 6) (gCons (gName 7) (gCons (gName 6) gNil)))))) (tt := tYes) rfl scLfe.nd (pi_list (pe_call (E := E0) G_spans (hr.mono (by decide)) rfl g_spans k_spans b_spans .nil pass0 (pa_cons (pv 0) (pa_cons (pv 1) pa_nil)))) (blkOk_by (N := ["chart", "row", "number", "ahead", "behind", "low", "_", "new"]) (sc := defScope sLfe) (by decide +kernel)) (fun _ _ _ _ _ => pg_tup rfl (pgs_cons (pg_name (i := 5) scLfe.nd rfl (Or.inl rfl)) (pgs_cons (pg_name (i := 6) scLfe.nd rfl (Or.inl rfl)) (pgs_cons (pg_name (i := 7) scLfe.nd rfl (Or.inl rfl)) (pgs_cons (pg_name (i := 6) scLfe.nd rfl (Or.inl rfl)) pgs_nil))))) (fun _ _ _ _ _ => pts_nil) (fun _ _ _ _ _ => pe_op op_sub (pv 5) (pe_op op_mul (pe_op op_fdivW (pe_op op_sub (pv 7) (pv 2)) (pv 4)) (pv 3)))) pa_nil))))), ?_⟩
    have ty2 : sizeLine = 16777216 := sizeLine_eq
    obtain ⟨er, okr, dr, ec1, ec2⟩ := ok.row il
    obtain ⟨dx, Lr, G, xs, ix, iL, iD, iG⟩ := id hx
    refine ⟨_, rfl, _, rfl, x, dx, _, rfl, ix, x, size, rs, rfl, hx, _, rfl, by omega, by have := ok.rl; omega, i, rs.length, rfl, il, fun H1 s1 => ?_⟩
    have hx1 := hx.same s1
    obtain ⟨dx, Lr, G, xs, ix, iL, iD, iG⟩ := id hx1
    dsimp only [tSeq]
    refine ⟨_, rfl, x, dx, _, rfl, ix, x, size, rs, rfl, hx1, fun p np => ?_⟩
    have t2 := same_new (o := .lst (nI (cnts size rs))) np
    have e2 := upd_same (H := H1) (a := p) (o := .lst (nI (cnts size rs)))
    generalize upd H1 p (.lst (nI (cnts size rs))) = H2 at t2 e2
    refine ⟨_, rfl, _, rfl, _, rfl, _, _, rfl, rfl, _, rfl, p, _, rfl, SqL.of e2, fun q nq => ?_⟩
    have cut : cutV (nI (cnts size rs)) (some (i : Int)) (some ((i : Int) + 2)) = [.int (cn size rs i : Int), .int (cn size rs (i + 1) : Int)] := by
      rw [show ((i : Int) + 2) = (i : Int) + (2 : Nat) by omega, cut_mid (by rw [List.length_map, cnts_len]; omega), nI_drop, nI_take, drop2 ec1 ec2]
      rfl
    rw [cut]
    have t3 := same_new (o := .lst [.int (cn size rs i : Int), .int (cn size rs (i + 1) : Int)]) nq
    refine ⟨q, _, rfl, SqL.of upd_same, rfl, ?_⟩
    refine ⟨_, _, rfl, _, _, rfl, rfl, ?_⟩
    have s13 := s1.trans (t2.trans t3)
    generalize upd H2 q (.lst [.int (cn size rs i : Int), .int (cn size rs (i + 1) : Int)]) = H3 at s13
    dsimp only [gName, gCons, gNil, List.set, tSeq]
    have b1 := ok.cn1 i
    have b2 := ok.cn1 (i + 1)
    have sp := ok.sp il
    refine ⟨_, rfl, _, rfl, x, i, size, rs, rfl, hx.same s13, ok, il, fun D H4 zs nD s4 eD dz => ?_⟩
    have zl := dps_len dz
    rw [List.length_map] at zl
    refine ⟨D, rfl, ⟨_, SqL.of eD⟩, fun M nM => ?_⟩
    have ez : (zs.zip (spR (rwAt rs i))).map (fun z => z.1) = zs := by rw [show (fun z : V × Spn => z.1) = Prod.fst from rfl, List.map_fst_zip (by omega)]
    have fewL : (spR (rwAt rs i)).length ≤ 100000 := by
      have h1 := spn_len (rwAt rs i).sts (rwAt rs i).off 0
      have h2 := ok.few _ (List.mem_of_getElem? er)
      have h1' : (spR (rwAt rs i)).length ≤ (rwAt rs i).sts.length := h1
      omega
    refine lcf_list (ns := zs.zip (spR (rwAt rs i))) (c := fun z : V × Spn => z.1) (fun _ => true) (fun s => V.int (lVal (cn size rs i) (cn size rs (i + 1)) z s.2)) (by rw [ez]; exact SqL.of eD) nM (by rw [List.length_zip]; omega) (fun j s H5 yes no hz s5 y n => ?_) (fun H5 s5 eM => ?_)
    · obtain ⟨z1, z2⟩ := List.getElem?_zip_eq_some.mp hz
      obtain ⟨a, e1, q1⟩ := sd_tup (dp_same s5 (dps_get dz z1 (by rw [List.getElem?_map, z2]; rfl)))
      rw [e1]
      refine ⟨a, _, rfl, q1, rfl, _, _, rfl, _, _, rfl, _, _, rfl, _, _, rfl, rfl, rfl, ?_⟩
      refine ⟨_, rfl, _, rfl, _, rfl, _, _, rfl, rfl, _, rfl, _, _, rfl, rfl, wide_div (b := 20) (by omega) (by omega) (by decide) (by decide), _, rfl, _, _, rfl, rfl, .inr ⟨by omega, by omega⟩, _, _, rfl, rfl, y rfl _ (Same.refl _)⟩
    have tm : ((zs.zip (spR (rwAt rs i))).filter fun _ => true).map (fun s => V.int (lVal (cn size rs i) (cn size rs (i + 1)) z s.2)) = ((spR (rwAt rs i)).map (lVal (cn size rs i) (cn size rs (i + 1)) z)).map V.int := by
      rw [List.filter_eq_self.mpr (fun _ _ => rfl), List.map_map]
      conv => rhs; rw [← List.map_snd_zip (l₁ := zs) (l₂ := spR (rwAt rs i)) (by omega), List.map_map]
      rfl
    rw [tm] at eM
    refine ⟨M, _, rfl, SqL.of eM, by rw [List.length_map]; exact List.length_pos_iff.mpr sp.ne, fun m hm hle => ?_⟩
    rw [minL_eq hm hle]
    exact k _ ((s13.trans s4).trans s5)
abbrev sRge : Stmt := top 19
theorem scRge : FnScope ["chart", "row", "number", "ahead", "behind", "_", "high", "last"] ["chart", "row", "number"] (defScope sRge) := ⟨rfl, rfl, rfl, by decide +kernel, rfl, by decide +kernel, by decide +kernel⟩
theorem ok_Rge {f : Addr} {fd : FuncData} (F : Fun K "right_end" "right_end" sRge f fd) (B : Bl mg) {CC : Addr} (N : Ch2 P w K mg base CC)
    {f_check_row : Addr} {d_check_row : FuncData} (G_check_row : FnOk P w K mg base CX0 3 f_check_row d_check_row ["row", "many"] spCrw) (g_check_row : mg "check_row" = some (.ref f_check_row)) (k_check_row : PySem.W.keepIn K (.ref f_check_row) = true) (b_check_row : Binds K d_check_row ["row", "many"] [])
    {f_spans : Addr} {d_spans : FuncData} (G_spans : FnOk P w K mg base CX0 3 f_spans d_spans ["chart", "row"] (spSpa K CC)) (g_spans : mg "spans" = some (.ref f_spans)) (k_spans : PySem.W.keepIn K (.ref f_spans) = true) (b_spans : Binds K d_spans ["chart", "row"] []) : FnOk P w K mg base CX0 4 f fd ["chart", "row", "number"] (spStp K CC rEnd) := by
  refine F.ok scRge (fun vs H Q E h => ?_) (fun cdv A outer s H vs Q E hr h => ?_)
  · obtain ⟨x, i, z, size, rs, rfl, _⟩ := h
    rfl
  · obtain ⟨x, i, z, size, rs, rfl, hx, ok, il, k⟩ := h
    refine ⟨_, pss_cons (ps_expr (pe_call (E := E0) G_check_row (hr.mono (by decide)) rfl g_check_row k_check_row b_check_row .nil pass0 (pa_cons (pv 1) (pa_cons (pe_callB (call_lenO (E := E0) N.aN N.oN (hr.mono (by decide)) N.bN pass0) (by rfl) (B "len" (by decide)) (by decide +kernel) (pa_cons (pv 0) pa_nil)) pa_nil))))
      (pss_cons (ps_asg (pe_slice sl_list (pe_prop (pv 0) N.cc N.aK N.oK (hr.mono (by decide)) N.bK .nil pass0 (by rfl)) (po_some (pv 1)) (po_some (pe_op op_add (pv 1) pe_int))) (pg_lst rfl (pgs_cons (pg_name (i := 3) scRge.nd rfl (Or.inr rfl)) (pgs_cons (pg_name (i := 4) scRge.nd rfl (Or.inr rfl)) pgs_nil))))
      (pss_one (ps_ret (pe_callB (cr_max rfl) (by rfl) (B "max" (by decide)) (by decide +kernel) (pa_cons (pe_lc (own := [("_", 5), ("high", 6), ("last", 7)]) (g := (gTup K 4 (gCons (gName 5) (gCons (gName 6) (gCons (gName 5) (gCons (gName 7) gNil)))))) (tt := tYes) rfl scRge.nd (pi_list (pe_call (E := E0) G_spans (hr.mono (by decide)) rfl g_spans k_spans b_spans .nil pass0 (pa_cons (pv 0) (pa_cons (pv 1) pa_nil)))) (blkOk_by (N := ["chart", "row", "number", "ahead", "behind", "_", "high", "last"]) (sc := defScope sRge) (by decide +kernel)) (fun _ _ _ _ _ => pg_tup rfl (pgs_cons (pg_name (i := 5) scRge.nd rfl (Or.inl rfl)) (pgs_cons (pg_name (i := 6) scRge.nd rfl (Or.inl rfl)) (pgs_cons (pg_name (i := 5) scRge.nd rfl (Or.inl rfl)) (pgs_cons (pg_name (i := 7) scRge.nd rfl (Or.inl rfl)) pgs_nil))))) (fun _ _ _ _ _ => pts_nil) (fun _ _ _ _ _ => pe_op op_add (pv 6) (pe_op op_mul (pe_op op_fdivW (pe_op op_sub (pv 2) (pv 7)) (pv 4)) (pv 3)))) pa_nil))))), ?_⟩
    have ty2 : sizeLine = 16777216 := sizeLine_eq
    obtain ⟨er, okr, dr, ec1, ec2⟩ := ok.row il
    obtain ⟨dx, Lr, G, xs, ix, iL, iD, iG⟩ := id hx
    refine ⟨_, rfl, _, rfl, x, dx, _, rfl, ix, x, size, rs, rfl, hx, _, rfl, by omega, by have := ok.rl; omega, i, rs.length, rfl, il, fun H1 s1 => ?_⟩
    have hx1 := hx.same s1
    obtain ⟨dx, Lr, G, xs, ix, iL, iD, iG⟩ := id hx1
    dsimp only [tSeq]
    refine ⟨_, rfl, x, dx, _, rfl, ix, x, size, rs, rfl, hx1, fun p np => ?_⟩
    have t2 := same_new (o := .lst (nI (cnts size rs))) np
    have e2 := upd_same (H := H1) (a := p) (o := .lst (nI (cnts size rs)))
    generalize upd H1 p (.lst (nI (cnts size rs))) = H2 at t2 e2
    refine ⟨_, rfl, _, rfl, _, rfl, _, _, rfl, rfl, _, rfl, p, _, rfl, SqL.of e2, fun q nq => ?_⟩
    have cut : cutV (nI (cnts size rs)) (some (i : Int)) (some ((i : Int) + 2)) = [.int (cn size rs i : Int), .int (cn size rs (i + 1) : Int)] := by
      rw [show ((i : Int) + 2) = (i : Int) + (2 : Nat) by omega, cut_mid (by rw [List.length_map, cnts_len]; omega), nI_drop, nI_take, drop2 ec1 ec2]
      rfl
    rw [cut]
    have t3 := same_new (o := .lst [.int (cn size rs i : Int), .int (cn size rs (i + 1) : Int)]) nq
    refine ⟨q, _, rfl, SqL.of upd_same, rfl, ?_⟩
    refine ⟨_, _, rfl, _, _, rfl, rfl, ?_⟩
    have s13 := s1.trans (t2.trans t3)
    generalize upd H2 q (.lst [.int (cn size rs i : Int), .int (cn size rs (i + 1) : Int)]) = H3 at s13
    dsimp only [gName, gCons, gNil, List.set, tSeq]
    have b1 := ok.cn1 i
    have b2 := ok.cn1 (i + 1)
    have sp := ok.sp il
    refine ⟨_, rfl, _, rfl, x, i, size, rs, rfl, hx.same s13, ok, il, fun D H4 zs nD s4 eD dz => ?_⟩
    have zl := dps_len dz
    rw [List.length_map] at zl
    refine ⟨D, rfl, ⟨_, SqL.of eD⟩, fun M nM => ?_⟩
    have ez : (zs.zip (spR (rwAt rs i))).map (fun z => z.1) = zs := by rw [show (fun z : V × Spn => z.1) = Prod.fst from rfl, List.map_fst_zip (by omega)]
    have fewL : (spR (rwAt rs i)).length ≤ 100000 := by
      have h1 := spn_len (rwAt rs i).sts (rwAt rs i).off 0
      have h2 := ok.few _ (List.mem_of_getElem? er)
      have h1' : (spR (rwAt rs i)).length ≤ (rwAt rs i).sts.length := h1
      omega
    refine lcf_list (ns := zs.zip (spR (rwAt rs i))) (c := fun z : V × Spn => z.1) (fun _ => true) (fun s => V.int (rVal (cn size rs i) (cn size rs (i + 1)) z s.2)) (by rw [ez]; exact SqL.of eD) nM (by rw [List.length_zip]; omega) (fun j s H5 yes no hz s5 y n => ?_) (fun H5 s5 eM => ?_)
    · obtain ⟨z1, z2⟩ := List.getElem?_zip_eq_some.mp hz
      obtain ⟨a, e1, q1⟩ := sd_tup (dp_same s5 (dps_get dz z1 (by rw [List.getElem?_map, z2]; rfl)))
      rw [e1]
      refine ⟨a, _, rfl, q1, rfl, _, _, rfl, _, _, rfl, _, _, rfl, _, _, rfl, rfl, rfl, ?_⟩
      refine ⟨_, rfl, _, rfl, _, rfl, _, _, rfl, rfl, _, rfl, _, _, rfl, rfl, wide_div (b := 20) (by omega) (by omega) (by decide) (by decide), _, rfl, _, _, rfl, rfl, .inr ⟨by omega, by omega⟩, _, _, rfl, rfl, y rfl _ (Same.refl _)⟩
    have tm : ((zs.zip (spR (rwAt rs i))).filter fun _ => true).map (fun s => V.int (rVal (cn size rs i) (cn size rs (i + 1)) z s.2)) = ((spR (rwAt rs i)).map (rVal (cn size rs i) (cn size rs (i + 1)) z)).map V.int := by
      rw [List.filter_eq_self.mpr (fun _ _ => rfl), List.map_map]
      conv => rhs; rw [← List.map_snd_zip (l₁ := zs) (l₂ := spR (rwAt rs i)) (by omega), List.map_map]
      rfl
    rw [tm] at eM
    refine ⟨M, _, rfl, SqL.of eM, by rw [List.length_map]; exact List.length_pos_iff.mpr sp.ne, fun m hm hle => ?_⟩
    rw [maxL_eq hm hle]
    exact k _ ((s13.trans s4).trans s5)
end
end S8
/-! far ends -/
namespace S8
open PySem PySem.Spec PyProof.Rows L2 LK MXi MY MZ
def tabL (c : Nat) (T : Int → Int) : List Int := (List.range c).map fun k : Nat => T (k : Int)
theorem tabL_len (c : Nat) (T : Int → Int) : (tabL c T).length = c := by
  unfold tabL
  rw [List.length_map, List.length_range]
theorem tabL_get {c k : Nat} {T : Int → Int} (h : k < c) : ((tabL c T).map V.int)[k]? = some (.int (T (k : Int))) := by
  unfold tabL
  rw [List.getElem?_map, List.getElem?_map, List.getElem?_range h]
  rfl
def spWlk (K : PySem.W.Frag) (CC fs : Addr) (st : Nat → List Rw → Nat → Int → Int) (up : Bool) : Sp := fun vs H Q _ => ∃ (x : Addr) (i : Nat) (z : Int) (n : Nat) (size : Nat) (rs : List Rw), vs = [.ref x, .int i, .int z, .int n, .ref fs, .int (if up then 1 else -1)] ∧ IsH K CC H x size rs ∧ OkCh size rs ∧ i < rs.length ∧ n ≤ 1000 ∧ ∀ H', Same H H' → Q (.int (walkD rs.length (st size rs) up n i z)) H'
def spShf (K : PySem.W.Frag) : Sp := fun vs H Q _ => ∃ (t : Addr) (z : Int) (c : Nat) (T : Int → Int), vs = [.ref t, .int z] ∧ SqL K H t ((tabL c T).map V.int) ∧ 1 ≤ c ∧ c ≤ 1000 ∧ Per1 c T ∧ ∀ H', Same H H' → Q (.int (T z)) H'
def spRep (K : PySem.W.Frag) : Sp := fun vs H Q _ => ∃ (t : Addr) (z : Int) (n c : Nat) (T : Int → Int), vs = [.ref t, .int z, .int n] ∧ SqL K H t ((tabL c T).map V.int) ∧ 1 ≤ c ∧ c ≤ 1000 ∧ Per1 c T ∧ ∀ H', Same H H' → Q (.int (itr T n z)) H'
def spRdt (K : PySem.W.Frag) (CC fs : Addr) (st : Nat → List Rw → Nat → Int → Int) (up : Bool) : Sp := fun vs H Q _ => ∃ (x : Addr) (i : Nat) (size : Nat) (rs : List Rw), vs = [.ref x, .int i, .ref fs, .int (if up then 1 else -1)] ∧ IsH K CC H x size rs ∧ OkCh size rs ∧ i < rs.length ∧
  ∀ (p : Addr) (H' : Hp), H p = none → Same H H' → H' p = some (.lst ((tabL (cn size rs (i + 1)) fun y => walkD rs.length (st size rs) up rs.length i y).map V.int)) → Q (.ref p) H'
def spFar (K : PySem.W.Frag) (CC fs : Addr) (st : Nat → List Rw → Nat → Int → Int) (up : Bool) : Sp := fun vs H Q _ => ∃ (x : Addr) (i : Nat) (z : Int) (n : Nat) (size : Nat) (rs : List Rw), vs = [.ref x, .int i, .int z, .int n, .ref fs, .int (if up then 1 else -1)] ∧ IsH K CC H x size rs ∧ OkCh size rs ∧ i < rs.length ∧ Per rs.length (st size rs) up (fun i => cn size rs (i + 1)) ∧ ∀ H', Same H H' → Q (.int (walkD rs.length (st size rs) up n i z)) H'
section
variable {P : Program} {w : World} {K : PySem.W.Frag} {mg : Str → Option Value} {base : Heap}
abbrev sWlk : Stmt := top 20
theorem scWlk : FnScope ["chart", "row", "number", "rows", "step", "by", "_"] ["chart", "row", "number", "rows", "step", "by"] (defScope sWlk) := ⟨rfl, rfl, rfl, by decide +kernel, rfl, by decide +kernel, by decide +kernel⟩
theorem ok_Wlk {f : Addr} {fd : FuncData} (F : Fun K "walk" "walk" sWlk f fd) (B : Bl mg) {CC : Addr} (N : Ch2 P w K mg base CC) {fs : Addr} {ds : FuncData} {st : Nat → List Rw → Nat → Int → Int} (up : Bool) (G_step : FnOk P w K mg base CX0 4 fs ds ["chart", "row", "number"] (spStp K CC st)) (k_step : PySem.W.keepIn K (.ref fs) = true) (b_step : Binds K ds ["chart", "row", "number"] []) : FnOk P w K mg base CX0 5 f fd ["chart", "row", "number", "rows", "step", "by"] (spWlk K CC fs st up) := by
  refine F.ok scWlk (fun vs H Q E h => ?_) (fun cdv A outer s H vs Q E hr h => ?_)
  · obtain ⟨x, i, z, n, size, rs, rfl, _⟩ := h
    rfl
  · obtain ⟨x, i, z, n, size, rs, rfl, hx, ok, il, few, k⟩ := h
    refine ⟨_, pss_cons (ps_for PassesOwn.never rfl (pi_range1 (by rfl) (B "range" (by decide)) (pa_cons (pv 3) pa_nil)) (pg_name (i := 6) scWlk.nd rfl (Or.inl rfl)) (pss_cons (ps_set (i := 2) scWlk.nd rfl (Or.inl rfl) (MZ.pe_callV (E := E0) G_step (hr.mono (by decide)) (pv 4) k_step b_step .nil pass0 (pa_cons (pv 0) (pa_cons (pv 1) (pa_cons (pv 2) pa_nil)))))
      (pss_one (ps_set (i := 1) scWlk.nd rfl (Or.inl rfl) (pe_op op_mod (pe_op op_add (pv 1) (pv 5)) (pe_callB (call_lenO (E := E0) N.aN N.oN (hr.mono (by decide)) N.bN pass0) (by rfl) (B "len" (by decide)) (by decide +kernel) (pa_cons (pv 0) pa_nil)))))))
      (pss_one (ps_ret (pv 2))), ?_⟩
    have rl := ok.rl
    dsimp only [tSeq]
    refine ⟨_, rfl, (n : Int), rfl, by omega, by omega, ?_⟩
    rw [Int.toNat_natCast]
    refine for_range (lo := 0) (n := n) (fun j σ Hn => ∃ (i' : Nat) (z' : Int) (o6 : Option V), σ = [some (.ref x), some (.int (i' : Int)), some (.int z'), some (.int (n : Int)), some (.ref fs), some (.int (if up then 1 else -1)), o6] ∧ Same H Hn ∧ i' < rs.length ∧ walkD rs.length (st size rs) up n i z = walkD rs.length (st size rs) up (n - j) i' z')
      ⟨i, z, _, rfl, Same.refl _, il, rfl⟩ (fun j σ Hn hj hI => ?_) (fun σ Hn hI => ?_)
    · obtain ⟨i', z', o6, rfl, s, il', e⟩ := hI
      have hxn := hx.same s
      dsimp only [gName, List.set, tSeq]
      refine ⟨rfl, _, rfl, _, rfl, _, rfl, x, i', z', size, rs, rfl, hxn, ok, il', fun H1 s1 => ?_⟩
      have hx1 := hxn.same s1
      obtain ⟨dx, Lr, G, xs, ix, iL, iD, iG⟩ := id hx1
      dsimp only [gName, List.set, tSeq]
      refine ⟨_, rfl, _, rfl, _, _, rfl, rfl, _, rfl, x, dx, _, rfl, ix, x, size, rs, rfl, hx1, _, rfl, by omega, by omega, _, _, rfl, rfl, by show (0 : Int) < (rs.length : Int); omega, ?_⟩
      have e2 : ((i' : Int) + (if up then 1 else -1)) % (rs.length : Int) = ((nxR rs.length up i' : Nat) : Int) := by
        unfold nxR
        cases up with
        | true =>
          rw [if_pos rfl, if_pos rfl, Int.natCast_emod]
          rfl
        | false =>
          rw [if_neg (by decide), if_neg (by decide), Int.natCast_emod, ← Int.add_emod_right]
          congr 1
          omega
      refine ⟨nxR rs.length up i', st size rs i' z', some (.int (0 + (j : Int))), ?_, s.trans s1, nxR_lt (by omega) up i', ?_⟩
      · rw [← e2]
        rfl
      · rw [e, show n - j = (n - (j + 1)) + 1 by omega]
        rfl
    · obtain ⟨i', z', o6, rfl, s, il', e⟩ := hI
      rw [Nat.sub_self] at e
      refine ⟨_, rfl, ?_⟩
      have := k _ s
      rw [e] at this
      exact this
abbrev sShf : Stmt := top 21
theorem scShf : FnScope ["table", "number", "repeat", "rest"] ["table", "number"] (defScope sShf) := ⟨rfl, rfl, rfl, by decide +kernel, rfl, by decide +kernel, by decide +kernel⟩
theorem ok_Shf {f : Addr} {fd : FuncData} (F : Fun K "shifted" "shifted" sShf f fd) (B : Bl mg) (gD : mg "divmod" = none) : FnOk P w K mg base CX0 1 f fd ["table", "number"] (spShf K) := by
  refine F.ok scShf (fun vs H Q E h => ?_) (fun cdv A outer s H vs Q E hr h => ?_)
  · obtain ⟨t, z, _, _, rfl, _⟩ := h
    rfl
  · obtain ⟨t, z, c, T, rfl, ht, c1, c2, per, k⟩ := h
    refine ⟨_, pss_cons (ps_asg (pe_callB call_divmod (by rfl) gD (by decide +kernel) (pa_cons (pv 1) (pa_cons (pe_callB call_len_seq (by rfl) (B "len" (by decide)) (by decide +kernel) (pa_cons (pv 0) pa_nil)) pa_nil))) (pg_tup rfl (pgs_cons (pg_name (i := 2) scShf.nd rfl (Or.inl rfl)) (pgs_cons (pg_name (i := 3) scShf.nd rfl (Or.inl rfl)) pgs_nil))))
      (pss_one (ps_ret (pe_op op_add (pe_ix ix_list (pv 0) (pv 3) (fun _ _ => rfl)) (pe_op op_mul (pv 2) (pe_callB call_len_seq (by rfl) (B "len" (by decide)) (by decide +kernel) (pa_cons (pv 0) pa_nil)))))), ?_⟩
    have tl := tabL_len c T
    refine ⟨_, rfl, _, rfl, t, _, rfl, .inl ht, _, _, rfl, ?_⟩
    rw [List.length_map, tl]
    refine ⟨⟨by omega, by omega⟩, fun p np => ?_⟩
    have t1 := same_new (o := .tup [.int (z / (c : Int)), .int (z % (c : Int))]) np
    refine ⟨p, _, rfl, SqT.of upd_same, rfl, ?_⟩
    refine ⟨_, _, rfl, _, _, rfl, rfl, ?_⟩
    generalize upd H p (.tup [.int (z / (c : Int)), .int (z % (c : Int))]) = H1 at t1
    dsimp only [gName, gCons, gNil, List.set, tSeq]
    have r0 := Int.emod_nonneg z (show (c : Int) ≠ 0 by omega)
    have r1 := Int.emod_lt_of_pos z (show (0 : Int) < c by omega)
    have ht1 := t1.seq ht
    obtain ⟨r, hr'⟩ := Int.eq_ofNat_of_zero_le r0
    rw [hr']
    refine ⟨_, rfl, _, rfl, t, _, (r : Int), .int (T (r : Int)), rfl, rfl, ht1, atI_nat (tabL_get (by omega)), ?_⟩
    refine ⟨_, rfl, _, rfl, t, _, rfl, .inl ht1, ?_⟩
    rw [List.length_map, tl]
    refine ⟨_, _, rfl, rfl, .inr ⟨by omega, by omega⟩, _, _, rfl, rfl, ?_⟩
    have e := per (r : Int) (z / (c : Int))
    have ez : (r : Int) + z / (c : Int) * (c : Int) = z := by
      have := Int.mul_ediv_add_emod z (c : Int)
      rw [Int.mul_comm (z / (c : Int)) c]
      omega
    rw [ez] at e
    have := k _ t1
    rw [e] at this
    exact this
abbrev sRep : Stmt := top 22
theorem scRep : FnScope ["table", "number", "times", "end"] ["table", "number", "times"] (defScope sRep) := ⟨rfl, rfl, rfl, by decide +kernel, rfl, by decide +kernel, by decide +kernel⟩
theorem ok_Rep {f : Addr} {fd : FuncData} (F : Fun K "repeated" "repeated" sRep f fd) (B : Bl mg)
    {f_shifted : Addr} {d_shifted : FuncData} (G_shifted : FnOk P w K mg base CX0 1 f_shifted d_shifted ["table", "number"] (spShf K)) (g_shifted : mg "shifted" = some (.ref f_shifted)) (k_shifted : PySem.W.keepIn K (.ref f_shifted) = true) (b_shifted : Binds K d_shifted ["table", "number"] []) : FnOk P w K mg base CX0 2 f fd ["table", "number", "times"] (spRep K) := by
  refine F.ok scRep (fun vs H Q E h => ?_) (fun cdv A outer s H vs Q E hr h => ?_)
  · obtain ⟨t, z, n, _, _, rfl, _⟩ := h
    rfl
  · obtain ⟨t, z, n, c, T, rfl, ht, c1, c2, per, k⟩ := h
    refine ⟨_, pss_cons (ps_while PassesOwn.never (pt_cmpR op_gt (pv 2) pe_int (nomark _)) (pss_cons (ps_if (pt_cmpR op_eq (pe_op op_mod (pv 2) pe_int) pe_int (nomark _)) (pss_one (ps_set (i := 1) scRep.nd rfl (Or.inl rfl) (pe_call (E := E0) G_shifted (hr.mono (by decide)) rfl g_shifted k_shifted b_shifted .nil pass0 (pa_cons (pv 0) (pa_cons (pv 1) pa_nil))))) pss_nil)
      (pss_cons (ps_set (i := 0) scRep.nd rfl (Or.inr rfl) (pe_lc (own := [("end", 3)]) (g := gName 3) (tt := tYes) rfl scRep.nd (pi_list (pv 0)) (blkOk_by (N := ["table", "number", "times", "end"]) (sc := defScope sRep) (by decide +kernel)) (fun _ _ _ _ _ => pg_name (i := 3) scRep.nd rfl (Or.inl rfl)) (fun _ _ _ _ _ => pts_nil) (fun _ _ _ _ _ => pe_call (E := E0) G_shifted (hr.mono (by decide)) rfl g_shifted k_shifted b_shifted .nil pass0 (pa_cons (pv 0) (pa_cons (pv 3) pa_nil)))))
      (pss_one (ps_set (i := 2) scRep.nd rfl (Or.inl rfl) (pe_op op_fdivW (pv 2) pe_int))))))
      (pss_one (ps_ret (pv 1))), ?_⟩
    have ty2 : sizeLine = 16777216 := sizeLine_eq
    dsimp only [tSeq]
    refine ⟨fun m σ Hn => ∃ (t' : Addr) (z' : Int) (T' : Int → Int) (o3 : Option V), σ = [some (.ref t'), some (.int z'), some (.int (m : Int)), o3] ∧ Same H Hn ∧ SqL K Hn t' ((tabL c T').map V.int) ∧ Per1 c T' ∧ itr T n z = itr T' m z', ⟨n, t, z, T, _, rfl, Same.refl _, ht, per, rfl⟩, fun m σ Hn hI => ?_⟩
    obtain ⟨t', z', T', o3, rfl, s, ht', per', e⟩ := hI
    refine ⟨_, rfl, _, _, rfl, rfl, _, rfl, ?_⟩
    by_cases m0 : m = 0
    · subst m0
      refine LK.ifF (decide_eq_false (by omega)) ⟨_, rfl, ?_⟩
      have := k _ s
      rw [e] at this
      exact this
    · refine LK.ifT (decide_eq_true (by omega)) ⟨fun σ' H' => ∃ m' < m, ∃ (t' : Addr) (z' : Int) (T' : Int → Int) (o3 : Option V), σ' = [some (.ref t'), some (.int z'), some (.int (m' : Int)), o3] ∧ Same H H' ∧ SqL K H' t' ((tabL c T').map V.int) ∧ Per1 c T' ∧ itr T n z = itr T' m' z', fun σ' H' ⟨m', lt, h⟩ => ⟨m', lt, h⟩, ?_⟩
      dsimp only [tSeq]
      refine stJ (fun σ Hm => ∃ z2 : Int, σ = [some (.ref t'), some (.int z2), some (.int (m : Int)), o3] ∧ Same Hn Hm ∧ itr T' m z' = itr (fun y => T' (T' y)) (m / 2) z2) (fun D' aft => ?_) ?_
      · refine ⟨_, rfl, _, _, rfl, rfl, by show (0 : Int) < 2; decide, rfl, _, rfl, ?_⟩
        by_cases od : m % 2 = 1
        · refine LK.ifT (decide_eq_true (congrArg V.int (by omega))) ?_
          refine ⟨_, rfl, _, rfl, t', z', c, T', rfl, ht', c1, c2, per', fun H1 s1 => ?_⟩
          refine aft _ _ ⟨T' z', rfl, s1, ?_⟩
          rw [itr_two, show m = 2 * (m / 2) + 1 by omega]
          show itr T' (2 * (m / 2)) (T' z') = _
          rw [show (2 * (m / 2) + 1) / 2 = m / 2 by omega]
        · refine LK.ifF (decide_eq_false fun q => od (by have := V.int.inj q; omega)) ?_
          refine aft _ _ ⟨z', rfl, Same.refl _, ?_⟩
          rw [itr_two, show 2 * (m / 2) = m by omega]
      rintro σ Hm ⟨z2, rfl, sm, e2⟩
      dsimp only [tSeq]
      have ht2 := sm.seq ht'
      refine ⟨_, rfl, t', rfl, ⟨_, ht2⟩, fun D nD => ?_⟩
      refine lcf_list (ns := tabL c T') (c := V.int) (fun _ => true) (fun y => V.int (T' y)) ht2 nD (by rw [tabL_len]; omega) (fun j y H5 yes no hy s5 ye n => ⟨rfl, ?_⟩) (fun H5 s5 eD => ?_)
      · exact ⟨_, rfl, _, rfl, t', y, c, T', rfl, s5.seq ht2, c1, c2, per', fun H6 s6 => ye rfl _ s6⟩
      have tm : ((tabL c T').filter fun _ => true).map (fun y => V.int (T' y)) = (tabL c fun y => T' (T' y)).map V.int := by
        rw [List.filter_eq_self.mpr (fun _ _ => rfl)]
        unfold tabL
        rw [List.map_map, List.map_map]
        rfl
      rw [tm] at eD
      dsimp only [gName, List.set, tSeq]
      refine ⟨_, rfl, _, _, rfl, rfl, wide_div (b := 2) (by decide) (by decide) (by decide) (by decide), ?_⟩
      refine ⟨m / 2, by omega, D, z2, fun y => T' (T' y), _, rfl, (s.trans sm).trans s5, SqL.of eD, per'.two, e.trans e2⟩
abbrev sRdt : Stmt := top 23
theorem scRdt : FnScope ["chart", "row", "step", "by", "number"] ["chart", "row", "step", "by"] (defScope sRdt) := ⟨rfl, rfl, rfl, by decide +kernel, rfl, by decide +kernel, by decide +kernel⟩
theorem ok_Rdt {f : Addr} {fd : FuncData} (F : Fun K "round_table" "round_table" sRdt f fd) (B : Bl mg) {CC : Addr} (N : Ch2 P w K mg base CC) {fs : Addr} {st : Nat → List Rw → Nat → Int → Int} (up : Bool)
    {f_walk : Addr} {d_walk : FuncData} (G_walk : FnOk P w K mg base CX0 5 f_walk d_walk ["chart", "row", "number", "rows", "step", "by"] (spWlk K CC fs st up)) (g_walk : mg "walk" = some (.ref f_walk)) (k_walk : PySem.W.keepIn K (.ref f_walk) = true) (b_walk : Binds K d_walk ["chart", "row", "number", "rows", "step", "by"] []) : FnOk P w K mg base CX0 6 f fd ["chart", "row", "step", "by"] (spRdt K CC fs st up) := by
  refine F.ok scRdt (fun vs H Q E h => ?_) (fun cdv A outer s H vs Q E hr h => ?_)
  · obtain ⟨x, i, size, rs, rfl, _⟩ := h
    rfl
  · obtain ⟨x, i, size, rs, rfl, hx, ok, il, k⟩ := h
    refine ⟨_, pss_one (ps_ret (pe_lc (own := [("number", 4)]) (g := gName 4) (tt := tYes) rfl scRdt.nd (pi_range1 (by rfl) (B "range" (by decide)) (pa_cons (pe_ix ix_list (pe_prop (pv 0) N.cc N.aK N.oK (hr.mono (by decide)) N.bK .nil pass0 (by rfl)) (pe_op op_add (pv 1) pe_int) (fun _ _ => rfl)) pa_nil)) (blkOk_by (N := ["chart", "row", "step", "by", "number"]) (sc := defScope sRdt) (by decide +kernel)) (fun _ _ _ _ _ => pg_name (i := 4) scRdt.nd rfl (Or.inl rfl)) (fun _ _ _ _ _ => pts_nil) (fun _ _ _ _ _ => pe_call (E := E0) G_walk (hr.mono (by decide)) rfl g_walk k_walk b_walk .nil pass0 (pa_cons (pv 0) (pa_cons (pv 1) (pa_cons (pv 4) (pa_cons (pe_callB (call_lenO (E := E0) N.aN N.oN (hr.mono (by decide)) N.bN pass0) (by rfl) (B "len" (by decide)) (by decide +kernel) (pa_cons (pv 0) pa_nil)) (pa_cons (pv 2) (pa_cons (pv 3) pa_nil))))))))), ?_⟩
    have rl := ok.rl
    obtain ⟨_, _, _, _, ec2⟩ := ok.row il
    have b2 := ok.cn1 (i + 1)
    obtain ⟨dx, Lr, G, xs, ix, iL, iD, iG⟩ := id hx
    refine ⟨_, rfl, x, dx, _, rfl, ix, x, size, rs, rfl, hx, fun p np => ?_⟩
    have t2 := same_new (o := .lst (nI (cnts size rs))) np
    have e2 := upd_same (H := H) (a := p) (o := .lst (nI (cnts size rs)))
    generalize upd H p (.lst (nI (cnts size rs))) = H2 at t2 e2
    refine ⟨_, rfl, _, _, rfl, rfl, p, _, ((i + 1 : Nat) : Int), .int (cn size rs (i + 1) : Int), rfl, by rfl, SqL.of e2, atI_nat (nI_get ec2), ?_⟩
    refine ⟨_, rfl, by omega, by omega, fun D nD => ?_⟩
    rw [Int.toNat_natCast]
    have nD0 := gone t2 nD
    refine lcf_range (n := cn size rs (i + 1)) (fun _ => true) (fun j : Nat => V.int (walkD rs.length (st size rs) up rs.length i (j : Int))) nD (by omega) (fun j H5 yes no hj s5 y n => ⟨rfl, ?_⟩) (fun H5 s5 eD => ?_)
    · have hx5 := hx.same (t2.trans s5)
      obtain ⟨dx, Lr, G, xs, ix, iL, iD, iG⟩ := id hx5
      exact ⟨_, rfl, _, rfl, _, rfl, _, rfl, x, dx, _, rfl, ix, x, size, rs, rfl, hx5, _, rfl, by omega, by omega, _, rfl, _, rfl, x, i, (j : Int), rs.length, size, rs, rfl, hx5, ok, il, rl.2, fun H6 s6 => y rfl _ s6⟩
    have tm : ((List.range (cn size rs (i + 1))).filter fun _ => true).map (fun j : Nat => V.int (walkD rs.length (st size rs) up rs.length i (j : Int))) = (tabL (cn size rs (i + 1)) fun y => walkD rs.length (st size rs) up rs.length i y).map V.int := by
      rw [List.filter_eq_self.mpr (fun _ _ => rfl)]
      unfold tabL
      rw [List.map_map]
      rfl
    rw [tm] at eD
    exact k D H5 nD0 (t2.trans s5) eD
abbrev sFar : Stmt := top 24
theorem scFar : FnScope ["chart", "row", "number", "rows", "step", "by", "times", "rest"] ["chart", "row", "number", "rows", "step", "by"] (defScope sFar) := ⟨rfl, rfl, rfl, by decide +kernel, rfl, by decide +kernel, by decide +kernel⟩
theorem ok_Far {f : Addr} {fd : FuncData} (F : Fun K "far_end" "far_end" sFar f fd) (B : Bl mg) (gD : mg "divmod" = none) {CC : Addr} (N : Ch2 P w K mg base CC) {fs : Addr} {st : Nat → List Rw → Nat → Int → Int} (up : Bool)
    {f_walk : Addr} {d_walk : FuncData} (G_walk : FnOk P w K mg base CX0 5 f_walk d_walk ["chart", "row", "number", "rows", "step", "by"] (spWlk K CC fs st up)) (g_walk : mg "walk" = some (.ref f_walk)) (k_walk : PySem.W.keepIn K (.ref f_walk) = true) (b_walk : Binds K d_walk ["chart", "row", "number", "rows", "step", "by"] [])
    {f_repeated : Addr} {d_repeated : FuncData} (G_repeated : FnOk P w K mg base CX0 2 f_repeated d_repeated ["table", "number", "times"] (spRep K)) (g_repeated : mg "repeated" = some (.ref f_repeated)) (k_repeated : PySem.W.keepIn K (.ref f_repeated) = true) (b_repeated : Binds K d_repeated ["table", "number", "times"] [])
    {f_round_table : Addr} {d_round_table : FuncData} (G_round_table : FnOk P w K mg base CX0 6 f_round_table d_round_table ["chart", "row", "step", "by"] (spRdt K CC fs st up)) (g_round_table : mg "round_table" = some (.ref f_round_table)) (k_round_table : PySem.W.keepIn K (.ref f_round_table) = true) (b_round_table : Binds K d_round_table ["chart", "row", "step", "by"] []) : FnOk P w K mg base CX0 7 f fd ["chart", "row", "number", "rows", "step", "by"] (spFar K CC fs st up) := by
  refine F.ok scFar (fun vs H Q E h => ?_) (fun cdv A outer s H vs Q E hr h => ?_)
  · obtain ⟨x, i, z, n, size, rs, rfl, _⟩ := h
    rfl
  · obtain ⟨x, i, z, n, size, rs, rfl, hx, ok, il, per, k⟩ := h
    refine ⟨_, pss_cons (ps_asg (pe_callB call_divmod (by rfl) gD (by decide +kernel) (pa_cons (pv 3) (pa_cons (pe_callB (call_lenO (E := E0) N.aN N.oN (hr.mono (by decide)) N.bN pass0) (by rfl) (B "len" (by decide)) (by decide +kernel) (pa_cons (pv 0) pa_nil)) pa_nil))) (pg_tup rfl (pgs_cons (pg_name (i := 6) scFar.nd rfl (Or.inl rfl)) (pgs_cons (pg_name (i := 7) scFar.nd rfl (Or.inl rfl)) pgs_nil))))
      (pss_cons (ps_if (pt_cmpR op_gt (pv 6) pe_int (nomark _)) (pss_one (ps_set (i := 2) scFar.nd rfl (Or.inl rfl) (pe_call (E := E0) G_repeated (hr.mono (by decide)) rfl g_repeated k_repeated b_repeated .nil pass0 (pa_cons (pe_call (E := E0) G_round_table (hr.mono (by decide)) rfl g_round_table k_round_table b_round_table .nil pass0 (pa_cons (pv 0) (pa_cons (pv 1) (pa_cons (pv 4) (pa_cons (pv 5) pa_nil))))) (pa_cons (pv 2) (pa_cons (pv 6) pa_nil)))))) pss_nil)
      (pss_one (ps_ret (pe_call (E := E0) G_walk (hr.mono (by decide)) rfl g_walk k_walk b_walk .nil pass0 (pa_cons (pv 0) (pa_cons (pv 1) (pa_cons (pv 2) (pa_cons (pv 7) (pa_cons (pv 4) (pa_cons (pv 5) pa_nil)))))))))), ?_⟩
    have rl := ok.rl
    have b2 := ok.cn1 (i + 1)
    obtain ⟨dx, Lr, G, xs, ix, iL, iD, iG⟩ := id hx
    refine ⟨_, rfl, _, rfl, x, dx, _, rfl, ix, x, size, rs, rfl, hx, _, rfl, by omega, by omega, _, _, rfl, ⟨by omega, by omega⟩, fun p np => ?_⟩
    have e1 : (n : Int) / (rs.length : Int) = ((n / rs.length : Nat) : Int) := (Int.natCast_ediv n rs.length).symm
    have e2 : (n : Int) % (rs.length : Int) = ((n % rs.length : Nat) : Int) := (Int.natCast_emod n rs.length).symm
    rw [e1, e2]
    have t1 := same_new (o := .tup [.int ((n / rs.length : Nat) : Int), .int ((n % rs.length : Nat) : Int)]) np
    refine ⟨p, _, rfl, SqT.of upd_same, rfl, ?_⟩
    refine ⟨_, _, rfl, _, _, rfl, rfl, ?_⟩
    generalize upd H p (.tup [.int ((n / rs.length : Nat) : Int), .int ((n % rs.length : Nat) : Int)]) = H1 at t1
    dsimp only [gName, gCons, gNil, List.set, tSeq]
    have fe : walkD rs.length (st size rs) up n i z = walkD rs.length (st size rs) up (n % rs.length) i (itr (fun y => walkD rs.length (st size rs) up rs.length i y) (n / rs.length) z) := by
      rw [← walkD_far il, Nat.div_add_mod]
    rw [fe] at k
    have rm : n % rs.length < rs.length := Nat.mod_lt _ (by omega)
    generalize n % rs.length = r at k rm
    generalize n / rs.length = t at k
    refine stJ (fun σ Hm => σ = [some (.ref x), some (.int (i : Int)), some (.int (itr (fun y => walkD rs.length (st size rs) up rs.length i y) t z)), some (.int (n : Int)), some (.ref fs), some (.int (if up then 1 else -1)), some (.int (t : Int)), some (.int (r : Int))] ∧ Same H Hm) (fun D' aft => ?_) ?_
    · refine ⟨_, rfl, _, _, rfl, rfl, _, rfl, ?_⟩
      by_cases t0 : t = 0
      · subst t0
        refine LK.ifF (decide_eq_false (by omega)) ?_
        exact aft _ _ ⟨rfl, t1⟩
      · refine LK.ifT (decide_eq_true (by omega)) ?_
        refine ⟨_, rfl, _, rfl, _, rfl, _, rfl, x, i, size, rs, rfl, hx.same t1, ok, il, fun q H2 nq s2 eq => ?_⟩
        refine ⟨_, rfl, _, rfl, q, z, t, cn size rs (i + 1), _, rfl, SqL.of eq, b2.1, b2.2, round_per per il, fun H3 s3 => ?_⟩
        exact aft _ _ ⟨rfl, (t1.trans s2).trans s3⟩
    rintro σ Hm ⟨rfl, sm⟩
    refine ⟨_, rfl, _, rfl, _, rfl, _, rfl, _, rfl, _, rfl, x, i, _, r, size, rs, rfl, hx.same sm, ok, il, by omega, fun H3 s3 => ?_⟩
    exact k _ (sm.trans s3)
end
end S8
/-! ends_at, below -/
namespace S8
open PySem PySem.Spec PyProof.Rows L2 LK MXi MY MZ
/-- a stretch, or nothing -/
def endsD (lo hi : Int) : PyData := if lo ≤ hi then .tuple [.int lo, .int hi] else .none
def spEat (K : PySem.W.Frag) (CC : Addr) : Sp := fun vs H Q _ => ∃ (x : Addr) (i : Nat) (l r : Int) (n : Nat) (size : Nat) (rs : List Rw), vs = [.ref x, .int i, .int l, .int r, .int n] ∧ IsH K CC H x size rs ∧ OkCh size rs ∧ i < rs.length ∧ ∀ (v : V) (H' : Hp), Same H H' → Dp K H' v (endsD (walkD rs.length (lEnd size rs) false n i l) (walkD rs.length (rEnd size rs) false n i r)) → Q v H'
def spBel (K : PySem.W.Frag) (CC : Addr) : Sp := fun vs H Q _ => ∃ (x : Addr) (i : Nat) (l r : Int) (size : Nat) (rs : List Rw), vs = [.ref x, .int i, .int l, .int r] ∧ IsH K CC H x size rs ∧ OkCh size rs ∧ i < rs.length ∧ ∀ (v : V) (H' : Hp), Same H H' → Dp K H' v (endsD (lEnd size rs i l) (rEnd size rs i r)) → Q v H'
section
variable {P : Program} {w : World} {K : PySem.W.Frag} {mg : Str → Option Value} {base : Heap}
abbrev sEat : Stmt := top 25
theorem scEat : FnScope ["chart", "row", "left", "right", "rows", "low", "high"] ["chart", "row", "left", "right", "rows"] (defScope sEat) := ⟨rfl, rfl, rfl, by decide +kernel, rfl, by decide +kernel, by decide +kernel⟩
theorem ok_Eat {f : Addr} {fd : FuncData} (F : Fun K "ends_at" "ends_at" sEat f fd) (B : Bl mg) {CC : Addr} (N : Ch2 P w K mg base CC)
    {f_check_row : Addr} {d_check_row : FuncData} (G_check_row : FnOk P w K mg base CX0 3 f_check_row d_check_row ["row", "many"] spCrw) (g_check_row : mg "check_row" = some (.ref f_check_row)) (k_check_row : PySem.W.keepIn K (.ref f_check_row) = true) (b_check_row : Binds K d_check_row ["row", "many"] [])
    {f_check_width : Addr} {d_check_width : FuncData} (G_check_width : FnOk P w K mg base CX0 2 f_check_width d_check_width ["width", "least"] spCwd) (g_check_width : mg "check_width" = some (.ref f_check_width)) (k_check_width : PySem.W.keepIn K (.ref f_check_width) = true) (b_check_width : Binds K d_check_width ["width", "least"] [])
    {f_far_end f_left_end f_right_end : Addr} {d_far_end : FuncData} (G_far_l : FnOk P w K mg base CX0 7 f_far_end d_far_end ["chart", "row", "number", "rows", "step", "by"] (spFar K CC f_left_end lEnd false)) (G_far_r : FnOk P w K mg base CX0 7 f_far_end d_far_end ["chart", "row", "number", "rows", "step", "by"] (spFar K CC f_right_end rEnd false)) (g_far_end : mg "far_end" = some (.ref f_far_end)) (k_far_end : PySem.W.keepIn K (.ref f_far_end) = true) (b_far_end : Binds K d_far_end ["chart", "row", "number", "rows", "step", "by"] []) (g_left_end : mg "left_end" = some (.ref f_left_end)) (g_right_end : mg "right_end" = some (.ref f_right_end)) : FnOk P w K mg base CX0 8 f fd ["chart", "row", "left", "right", "rows"] (spEat K CC) := by
  refine F.ok scEat (fun vs H Q E h => ?_) (fun cdv A outer s H vs Q E hr h => ?_)
  · obtain ⟨x, i, l, r, n, size, rs, rfl, _⟩ := h
    rfl
  · obtain ⟨x, i, l, r, n, size, rs, rfl, hx, ok, il, k⟩ := h
    refine ⟨_, pss_cons (ps_expr (pe_call (E := E0) G_check_row (hr.mono (by decide)) rfl g_check_row k_check_row b_check_row .nil pass0 (pa_cons (pv 1) (pa_cons (pe_callB (call_lenO (E := E0) N.aN N.oN (hr.mono (by decide)) N.bN pass0) (by rfl) (B "len" (by decide)) (by decide +kernel) (pa_cons (pv 0) pa_nil)) pa_nil))))
      (pss_cons (ps_expr (pe_call (E := E0) G_check_width (hr.mono (by decide)) rfl g_check_width k_check_width b_check_width .nil pass0 (pa_cons (pv 4) (pa_cons pe_int pa_nil))))
      (pss_cons (ps_set (i := 5) scEat.nd rfl (Or.inl rfl) (pe_call (E := E0) G_far_l (hr.mono (by decide)) rfl g_far_end k_far_end b_far_end .nil pass0 (pa_cons (pv 0) (pa_cons (pv 1) (pa_cons (pv 2) (pa_cons (pv 4) (pa_cons (pe_glob (v := .ref f_left_end) rfl g_left_end rfl) (pa_cons (pe_un un_neg pe_int) pa_nil))))))))
      (pss_cons (ps_set (i := 6) scEat.nd rfl (Or.inl rfl) (pe_call (E := E0) G_far_r (hr.mono (by decide)) rfl g_far_end k_far_end b_far_end .nil pass0 (pa_cons (pv 0) (pa_cons (pv 1) (pa_cons (pv 3) (pa_cons (pv 4) (pa_cons (pe_glob (v := .ref f_right_end) rfl g_right_end rfl) (pa_cons (pe_un un_neg pe_int) pa_nil))))))))
      (pss_one (ps_ret (pe_ifExp (pt_cmpR op_le (pv 5) (pv 6) (nomark _)) (pe_tup (pa_cons (pv 5) (pa_cons (pv 6) pa_nil))) pe_non)))))), ?_⟩
    have rl := ok.rl
    obtain ⟨dx, Lr, G, xs, ix, iL, iD, iG⟩ := id hx
    refine ⟨_, rfl, _, rfl, x, dx, _, rfl, ix, x, size, rs, rfl, hx, _, rfl, by omega, by omega, i, rs.length, rfl, il, fun H1 s1 => ?_⟩
    dsimp only [tSeq]
    refine ⟨_, rfl, _, _, rfl, by omega, fun H2 s2 => ?_⟩
    have s12 := s1.trans s2
    dsimp only [tSeq]
    refine ⟨_, rfl, _, rfl, _, rfl, _, rfl, 1, rfl, x, i, l, n, size, rs, rfl, hx.same s12, ok, il, lEnd_per ok, fun H3 s3 => ?_⟩
    have s13 := s12.trans s3
    dsimp only [gName, List.set, tSeq]
    refine ⟨_, rfl, _, rfl, _, rfl, _, rfl, 1, rfl, x, i, r, n, size, rs, rfl, hx.same s13, ok, il, rEnd_per ok, fun H4 s4 => ?_⟩
    have s14 := s13.trans s4
    dsimp only [gName, List.set, tSeq]
    refine ⟨_, rfl, _, rfl, _, _, rfl, rfl, _, rfl, ?_⟩
    by_cases c : walkD rs.length (lEnd size rs) false n i l ≤ walkD rs.length (rEnd size rs) false n i r
    · refine LK.ifT (decide_eq_true c) ⟨_, rfl, _, rfl, by show 2 ≤ sizeLine; decide, fun p np => ?_⟩
      refine k _ _ (s14.trans (same_new np)) ?_
      unfold endsD
      rw [if_pos c]
      exact .tup (SqT.of upd_same) (.cons (.int _) (.cons (.int _) .nil))
    · refine LK.ifF (decide_eq_false c) (k _ _ s14 ?_)
      unfold endsD
      rw [if_neg c]
      exact .non
end
end S8
/-! for i in range(a, b) for whole numbers of any size. -/
namespace MZ
open PySem PySem.Spec PyProof.Rows L2 LK
theorem turn_long {P : Program} {w : World} {K : PySem.W.Frag} {tg : Expr} (it : Addr) (lo : Int) (n : Nat) : Turn P w K tg (Itr lo n) [it] it (fun i h => IsLongIter h it (lo + (i : Nat) * 1) ((n : Int) - (i : Nat)) 1) where
  mem := by simp
  obj := fun i h st b hb => by
    have e : b = it := by simpa using hb
    subst e
    exact ⟨_, st, fun v z => by
      have z' : Data.fields _ = Data.cell v := z
      cases z'⟩
  keep := fun i h h' st k => k it (by simp) _ st
  item := by
    intro X hP hw hK hc i pins s σ H E I hf st hg
    subst hP hw hK
    obtain ⟨f0, f1, f2, f3, f4, f5⟩ := hf it (by simp)
    have W := Walks.longrange (prog := X.prog) (w := X.w) (I.ok.hd hc) it lo 1 n
    refine W.item i s _ _ hg st fun v h' tk hv st' kk => ?_
    obtain ⟨t, rfl⟩ := hv
    have I1 : Inv X pins σ H { s with heap := h', toks := tk } := I.turned (fun b o hb e => kk b o (by simpa using hb) e) f0 f1 f3 f4 f5
    refine ⟨_, rfl, go_of (s := { s with heap := h', toks := tk }) (n := "longrange_iterator") st' rfl rfl (by decide) ⟨.int (lo + i), H, I1, ⟨t, ?_⟩, ⟨rfl, rfl⟩, st', fun b hb => (hf b hb).1⟩⟩
    rw [Int.mul_one]
  done := by
    intro X hP hw hK hc i pins s σ H E I hf st hg
    subst hP hw hK
    obtain ⟨f0, f1, f2, f3, f4, f5⟩ := hf it (by simp)
    exact wpAny_pyNext_long_end (I.ok.hd hc) st (by have : n ≤ i := hg; omega) fun h' eb => ⟨rfl, I.turned (t' := s.toks) (fun b o hb e => eb b o hb e) f0 f1 f3 f4 f5⟩
  self := fun _ _ _ _ _ st h => wpAny_pyIter_longiter st h
section
variable {X : Cx} {tg : Expr}
theorem range_itA {pins : List (Addr × Obj)} {σ : L2.St} {H : Hp} {s : Shared} {R : It → Hp → Prop} {E : Value → Shared → Prop} {lo hi : Int} {t u v : Tok} {tk : Nat} (I : Inv X pins σ H s)
    (q : R (Itr lo (hi - lo).toNat) H) : wpAny (model X.prog X.w) X.A (pyIter (.ref s.heap.objs.size)) (PIE X pins σ tg R) E { s with heap := s.heap.push { cls := .type "range", data := .fields #[.int lo t, .int hi u, .int 1 v] }, toks := tk } := by
  have I1 : Inv X pins σ H { s with heap := s.heap.push { cls := .type "range", data := .fields #[.int lo t, .int hi u, .int 1 v] }, toks := tk } := I.kept fun b o e => Heap.get?_push_of_some _ e
  cases sm : Builtin.Range.small lo hi 1 with
  | true =>
    refine wpAny_pyIter_range (IsRange.new ..) sm ?_
    refine ⟨(s.heap.push { cls := .type "range", data := .fields #[.int lo t, .int hi u, .int 1 v] }).objs.size, [(s.heap.push { cls := .type "range", data := .fields #[.int lo t, .int hi u, .int 1 v] }).objs.size], _, _, H, rfl,
      I1.kept (t' := tk) fun b o e => Heap.get?_push_of_some _ e, turn_range _ lo (hi - lo).toNat, ?_, fun b hb => ?_, q⟩
    · have e1 : lo + ((0 : Nat) : Int) * 1 = lo := by simp
      have e2 : (((hi - lo).toNat : Nat) : Int) - ((0 : Nat) : Int) = Builtin.Range.rangeSize lo hi 1 := by rw [rangeSize_one]; split <;> omega
      show IsRangeIter _ _ (lo + ((0 : Nat) : Int) * 1) ((((hi - lo).toNat : Nat) : Int) - ((0 : Nat) : Int)) 1
      rw [e1, e2]
      exact Heap.get?_push_size _ rfl
    · have e : b = (s.heap.push { cls := .type "range", data := .fields #[.int lo t, .int hi u, .int 1 v] }).objs.size := by simpa using hb
      subst e
      exact I1.fpOk (Nat.le_refl _) (I1.hok.fresh (Nat.le_refl _))
  | false =>
    refine wpAny_pyIter_longrange (IsRange.new ..) sm ?_
    refine ⟨(s.heap.push { cls := .type "range", data := .fields #[.int lo t, .int hi u, .int 1 v] }).objs.size, [(s.heap.push { cls := .type "range", data := .fields #[.int lo t, .int hi u, .int 1 v] }).objs.size], _, _, H, rfl,
      I1.kept (t' := tk) fun b o e => Heap.get?_push_of_some _ e, turn_long _ lo (hi - lo).toNat, ?_, fun b hb => ?_, q⟩
    · have e1 : lo + ((0 : Nat) : Int) * 1 = lo := by simp
      have e2 : (((hi - lo).toNat : Nat) : Int) - ((0 : Nat) : Int) = Builtin.Range.rangeSize lo hi 1 := by rw [rangeSize_one]; split <;> omega
      show IsLongIter _ _ (lo + ((0 : Nat) : Int) * 1) ((((hi - lo).toNat : Nat) : Int) - ((0 : Nat) : Int)) 1
      rw [e1, e2]
      exact Heap.get?_push_size _ rfl
    · have e : b = (s.heap.push { cls := .type "range", data := .fields #[.int lo t, .int hi u, .int 1 v] }).objs.size := by simpa using hb
      subst e
      exact I1.fpOk (Nat.le_refl _) (I1.hok.fresh (Nat.le_refl _))
def iRngA (ta : TA) : TI := fun σ H R => ta σ H fun vs H1 => ∃ i j : Int, vs = [.int i, .int j] ∧ R (Itr i (j - i).toNat) H1
theorem pi_range2A {a b : Expr} {ta : TA} {p pos : Pos} (hg : Gl X "range") (hm : X.mg "range" = none) (ha : PA X [a, b] ta) (hs : starEach [a, b] X.env = [(false, eval a X.env), (false, eval b X.env)] := by rfl) (hs2 : starEach [b] X.env = [(false, eval b X.env)] := by rfl) :
    PI X tg (.Call (.Name "range" p) [a, b] [] pos) (iRngA ta) := by
  refine ⟨fun pins s σ H R I h => ?_⟩
  refine Call_ (ld_blt I hg hm boot_range (PyProof.Rows.callWith_type1 (thn (ha.run pos pins s σ H _ I h) fun us s1 ⟨vs, H1, I1, r1, q1⟩ => ?_) (by rw [hs, hs2]) (by rw [hs2]; rfl)))
  obtain ⟨i, j, e, q⟩ := q1
  subst e
  cases r1 with
  | cons r rr =>
    cases rr with
    | cons r' rr =>
      cases rr
      obtain ⟨t, rfl⟩ := r
      obtain ⟨t', rfl⟩ := r'
      exact call_range_2 (range_itA I1 q)
end
end MZ
/-! The mathematics of the marks of a row. -/
namespace MZ
open PySem PySem.Spec PyProof.Rows L2 LK MY
/-- a stitch at its place: its first loop, how many it takes, its first new loop, how many it draws -/
structure Mrk where
  nr : Nat
  mn : Nat
  fr : Nat
  md : Nat
def mks : Nat → Nat → List Sti → List Mrk
  | _, _, [] => []
  | nr, fr, s :: r => ⟨nr, s.1, fr, s.2⟩ :: mks (nr + s.1) (fr + s.2) r
def mkD (m : Mrk) : PyData := .tuple [.int (m.nr : Int), .int (m.mn : Int), .int (m.fr : Int), .int (m.md : Int)]
theorem noLs_mkD (qs : List Mrk) : noLs (qs.map mkD) = true := noLs_iff.mpr fun d hd => by
  obtain ⟨s, _, rfl⟩ := List.mem_map.mp hd
  rfl
theorem mk_tup {K : PySem.W.Frag} {H : Hp} {v : V} {q : Mrk} (h : Dp K H v (mkD q)) : ∃ a, v = .ref a ∧ SqT K H a [.int (q.nr : Int), .int (q.mn : Int), .int (q.fr : Int), .int (q.md : Int)] := by
  cases h with
  | tup q' r =>
    obtain rfl := ints_back (ns := [(q.nr : Int), (q.mn : Int), (q.fr : Int), (q.md : Int)]) r
    exact ⟨_, rfl, q'⟩
theorem mks_len : ∀ (ss : List Sti) (nr fr : Nat), (mks nr fr ss).length = ss.length
  | [], _, _ => rfl
  | s :: r, nr, fr => by
    unfold mks
    rw [List.length_cons, List.length_cons, mks_len r]
theorem mks_take : ∀ (ss : List Sti) (nr fr k : Nat), (mks nr fr ss).take k = mks nr fr (ss.take k)
  | [], _, _, k => by rw [List.take_nil]; exact List.take_nil
  | s :: r, nr, fr, 0 => rfl
  | s :: r, nr, fr, k + 1 => by
    show _ :: (mks _ _ r).take k = _
    rw [mks_take r]
    rfl
theorem mks_app : ∀ (a b : List Sti) (nr fr : Nat), mks nr fr (a ++ b) = mks nr fr a ++ mks (nr + tks a) (fr + drs a) b
  | [], b, nr, fr => rfl
  | s :: a, b, nr, fr => by
    have := mks_app a b (nr + s.1) (fr + s.2)
    show _ :: mks _ _ (a ++ b) = _ :: mks _ _ a ++ _
    rw [this]
    have e1 : nr + s.1 + tks a = nr + tks (s :: a) := by
      unfold tks
      rw [List.map_cons, List.sum_cons]
      omega
    have e2 : fr + s.2 + drs a = fr + drs (s :: a) := by
      unfold drs
      rw [List.map_cons, List.sum_cons]
      omega
    rw [e1, e2]
    rfl
def spM (off : Nat) (m : Mrk) : Spn := ⟨off + m.nr, off + m.nr + m.mn - 1, m.fr, m.fr + m.md - 1⟩
theorem spn_mks (off : Nat) : ∀ (ss : List Sti) (nr fr : Nat), spn (off + nr) fr ss = ((mks nr fr ss).filter fun m => decide (0 < m.mn)).map (spM off)
  | [], _, _ => rfl
  | s :: r, nr, fr => by
    have := spn_mks off r (nr + s.1) (fr + s.2)
    unfold spn mks
    rw [show off + nr + s.1 = off + (nr + s.1) by omega, this]
    by_cases c : 0 < s.1
    · rw [if_pos c, List.filter_cons_of_pos (by exact decide_eq_true c)]
      show [_] ++ _ = spM off _ :: _
      unfold spM
      rw [List.singleton_append, show off + nr + s.1 = off + (nr + s.1) by omega]
    · rw [if_neg c, List.filter_cons_of_neg (by simpa using c)]
      rfl
def mkR (r : Rw) : List Mrk := mks 0 0 r.sts
theorem spR_mks (r : Rw) : spR r = ((mkR r).filter fun m => decide (0 < m.mn)).map (spM r.off) := spn_mks r.off r.sts 0 0
theorem mks_ord : ∀ (ss : List Sti) (nr fr : Nat), (∀ s ∈ ss, 1 ≤ s.2) → (mks nr fr ss).Pairwise (fun p q => p.fr + p.md ≤ q.fr ∧ p.nr + p.mn ≤ q.nr) ∧ ∀ m ∈ mks nr fr ss, fr ≤ m.fr ∧ nr ≤ m.nr ∧ 1 ≤ m.md ∧ m.fr + m.md ≤ fr + drs ss ∧ m.nr + m.mn ≤ nr + tks ss
  | [], _, _, _ => ⟨List.Pairwise.nil, fun m h => absurd h List.not_mem_nil⟩
  | s :: r, nr, fr, h => by
    obtain ⟨h1, h2⟩ := mks_ord r (nr + s.1) (fr + s.2) fun q m => h q (List.mem_cons_of_mem _ m)
    have hs := h s List.mem_cons_self
    have e1 : tks (s :: r) = s.1 + tks r := by
      unfold tks
      rw [List.map_cons, List.sum_cons]
    have e2 : drs (s :: r) = s.2 + drs r := by
      unfold drs
      rw [List.map_cons, List.sum_cons]
    unfold mks
    refine ⟨List.pairwise_cons.mpr ⟨fun q mq => ?_, h1⟩, fun m hm => ?_⟩
    · have := h2 q mq
      dsimp only
      omega
    · rw [e1, e2]
      rcases List.mem_cons.mp hm with rfl | hm
      · dsimp only
        omega
      · have := h2 m hm
        omega
/-- a stitch that takes something is a span -/
theorem mk_sp {r : Rw} {m : Mrk} (h : m ∈ mkR r) (c : 0 < m.mn) : spM r.off m ∈ spR r := by
  rw [spR_mks]
  exact List.mem_map_of_mem (List.mem_filter.mpr ⟨h, decide_eq_true c⟩)
theorem sp_mk {r : Rw} {q : Spn} (h : q ∈ spR r) : ∃ m ∈ mkR r, 0 < m.mn ∧ q = spM r.off m := by
  rw [spR_mks] at h
  obtain ⟨m, hm, e⟩ := List.mem_map.mp h
  exact ⟨m, (List.mem_filter.mp hm).1, of_decide_eq_true (List.mem_filter.mp hm).2, e.symm⟩
theorem OkRow.mrk {c : Nat} {r : Rw} (h : OkRow c r) : (mkR r).Pairwise (fun p q => p.fr + p.md ≤ q.fr ∧ p.nr + p.mn ≤ q.nr) ∧ ∀ m ∈ mkR r, 1 ≤ m.md := by
  obtain ⟨h1, h2⟩ := mks_ord r.sts 0 0 fun s m => (h.sts.ok s m).2.1
  exact ⟨h1, fun m hm => (h2 m hm).2.2.1⟩
/-- what begins ahead stands ahead -/
theorem mk_before {l : List Mrk} (h : l.Pairwise fun p q => p.fr + p.md ≤ q.fr ∧ p.nr + p.mn ≤ q.nr) (h1 : ∀ m ∈ l, 1 ≤ m.md) {i j : Nat} {p q : Mrk} (hi : l[i]? = some p) (hj : l[j]? = some q) (lt : p.fr < q.fr) : i < j := by
  obtain ⟨il, ei⟩ := List.getElem?_eq_some_iff.mp hi
  obtain ⟨jl, ej⟩ := List.getElem?_eq_some_iff.mp hj
  rcases Nat.lt_trichotomy i j with c | c | c
  · exact c
  · subst c
    rw [ei] at ej
    rw [ej] at lt
    omega
  · have := List.pairwise_iff_getElem.mp h j i jl il c
    rw [ei, ej] at this
    have := h1 q (List.mem_of_getElem? hj)
    omega
theorem dps_rev {K : PySem.W.Frag} {H : Hp} : ∀ {vs : List V} {ds : List PyData}, DpAll K H vs ds → DpAll K H vs.reverse ds.reverse
  | _, _, .nil => .nil
  | _, _, .cons a r => by
    rw [List.reverse_cons, List.reverse_cons]
    exact dps_app (dps_rev r) (.cons a .nil)
/-- a statement that may return -/
theorem stR {t : TS} {D : Ends} {σ : L2.St} {H : Hp} (R : L2.St → Hp → Prop) (h : ∀ D' : Ends, (∀ v H', D.rt v H' → D'.rt v H') → (∀ σ' H', R σ' H' → D'.nx σ' H') → t D' σ H) (q : ∀ σ' H', R σ' H' → D.nx σ' H') : t D σ H := h D (fun _ _ z => z) q
theorem sl_tupK {X : Cx} {K : PySem.W.Frag} (e : X.K = K := by rfl) : SlR X (rSlT K) := e ▸ sl_tup
section
variable {L : List Spn} {off a b : Nat} (S : SpOk L off a b)
include S
/-- the first one of this lap -/
theorem SpOk.low_here {q : Spn} {x : Int} (m : q ∈ L) (h : x ≤ q.nw + x / (b : Int) * b) (f : ∀ p ∈ L, p.nw < q.nw → (p.nw : Int) + x / (b : Int) * b < x) : lE L a b x = q.lo + x / (b : Int) * a := by
  have b0 : (0 : Int) < b := by have := S.b1; omega
  have h1 := S.lle m h
  obtain ⟨p, mp, k, e, hp⟩ := S.lmem x
  obtain ⟨d1, d2⟩ := (div_iff b0).mp (rfl : x / (b : Int) = _)
  rw [Int.add_mul, Int.one_mul] at d2
  have pb := S.ok p mp
  have qb := S.ok q m
  have kl : x / (b : Int) ≤ k := by
    refine Classical.byContradiction fun z => ?_
    have := mul_mono (a := (b : Int)) (by omega) (show k + 1 ≤ x / (b : Int) by omega)
    rw [Int.add_mul, Int.one_mul] at this
    omega
  by_cases kk : k = x / (b : Int)
  · subst kk
    rcases S.two mp m with rfl | c | c
    · omega
    · have := f p mp (by omega)
      omega
    · omega
  · have := mul_mono (a := (a : Int)) (by omega) (show x / (b : Int) + 1 ≤ k by omega)
    rw [Int.add_mul, Int.one_mul] at this
    omega
/-- none of this lap: the first one of the next -/
theorem SpOk.low_next {q : Spn} {x : Int} (m : q ∈ L) (first : ∀ p ∈ L, q.lo ≤ p.lo) (f : ∀ p ∈ L, (p.nw : Int) + x / (b : Int) * b < x) : lE L a b x = q.lo + (x / (b : Int) + 1) * a := by
  have b0 : (0 : Int) < b := by have := S.b1; omega
  obtain ⟨d1, d2⟩ := (div_iff b0).mp (rfl : x / (b : Int) = _)
  have h1 := S.lle (k := x / (b : Int) + 1) m (x := x) (by omega)
  obtain ⟨p, mp, k, e, hp⟩ := S.lmem x
  have pb := S.ok p mp
  have fp := f p mp
  have lo := first p mp
  have kl : x / (b : Int) + 1 ≤ k := by
    refine Classical.byContradiction fun z => ?_
    have := mul_mono (a := (b : Int)) (by omega) (show k ≤ x / (b : Int) by omega)
    omega
  have := mul_mono (a := (a : Int)) (by omega) kl
  omega
/-- the last one of this lap -/
theorem SpOk.high_here {q : Spn} {x : Int} (m : q ∈ L) (h : (q.ls : Int) + x / (b : Int) * b ≤ x) (f : ∀ p ∈ L, q.ls < p.ls → x < (p.ls : Int) + x / (b : Int) * b) : rE L a b x = q.hi + x / (b : Int) * a := by
  have b0 : (0 : Int) < b := by have := S.b1; omega
  have h1 := S.rle m h
  obtain ⟨p, mp, k, e, hp⟩ := S.rmem x
  obtain ⟨d1, d2⟩ := (div_iff b0).mp (rfl : x / (b : Int) = _)
  rw [Int.add_mul, Int.one_mul] at d2
  have pb := S.ok p mp
  have qb := S.ok q m
  have kl : k ≤ x / (b : Int) := by
    refine Classical.byContradiction fun z => ?_
    have := mul_mono (a := (b : Int)) (by omega) (show x / (b : Int) + 1 ≤ k by omega)
    rw [Int.add_mul, Int.one_mul] at this
    omega
  by_cases kk : k = x / (b : Int)
  · subst kk
    rcases S.two mp m with rfl | c | c
    · omega
    · omega
    · have := f p mp (by have := S.ok p mp; omega)
      omega
  · have := mul_mono (a := (a : Int)) (by omega) (show k + 1 ≤ x / (b : Int) by omega)
    rw [Int.add_mul, Int.one_mul] at this
    omega
/-- none of this lap: the last one of the lap ahead -/
theorem SpOk.high_next {q : Spn} {x : Int} (m : q ∈ L) (last : ∀ p ∈ L, p.hi ≤ q.hi) (f : ∀ p ∈ L, x < (p.ls : Int) + x / (b : Int) * b) : rE L a b x = q.hi + (x / (b : Int) - 1) * a := by
  have b0 : (0 : Int) < b := by have := S.b1; omega
  obtain ⟨d1, d2⟩ := (div_iff b0).mp (rfl : x / (b : Int) = _)
  have qb := S.ok q m
  have h1 := S.rle (k := x / (b : Int) - 1) m (x := x) (by rw [Int.sub_mul, Int.one_mul]; omega)
  obtain ⟨p, mp, k, e, hp⟩ := S.rmem x
  have pb := S.ok p mp
  have fp := f p mp
  have lo := last p mp
  have kl : k ≤ x / (b : Int) - 1 := by
    refine Classical.byContradiction fun z => ?_
    have := mul_mono (a := (b : Int)) (by omega) (show x / (b : Int) ≤ k by omega)
    omega
  have := mul_mono (a := (a : Int)) (by omega) kl
  omega
/-- a wide stretch has something below -/
theorem SpOk.wide {x y : Int} (h : x + 2 * b ≤ y) : lE L a b x ≤ rE L a b y := by
  have b0 : (0 : Int) < b := by have := S.b1; omega
  obtain ⟨q, m⟩ := List.exists_mem_of_ne_nil _ S.ne
  have qb := S.ok q m
  obtain ⟨d1, d2⟩ := (div_iff b0).mp (rfl : x / (b : Int) = _)
  refine S.some_iff.mpr ⟨q, m, x / (b : Int) + 1, by omega, ?_⟩
  rw [Int.add_mul, Int.one_mul] at d2 ⊢
  omega
end
end MZ
/-! sums, marks, spots -/
namespace S8
open PySem PySem.Spec PyProof.Rows L2 LK MXi MY MZ
theorem Plan.same {K : PySem.W.Frag} {H H' : Hp} {t Ld : Addr} {xs : List V} {size : Nat} {rs : List Rw} (h : Plan K H t Ld xs size rs) (s : Same H H') : Plan K H' t Ld xs size rs := ⟨s _ _ h.et, s _ _ h.eL, dps_same s h.dL, h.rows⟩
theorem Plan.bt {K : PySem.W.Frag} {H H' : Hp} {c t Ld : Addr} {B : Nat} {xs : List V} {size : Nat} {rs : List Rw} (h : Plan K H t Ld xs size rs) (hc : CR H c B) (n : Ld ≠ c) (s : Bt c H H') : Plan K H' t Ld xs size rs := ⟨Tl.bt hc s _ _ (fun _ z => by cases z) h.et, s _ _ n h.eL, dps_tl (Tl.bt hc s) (noLs_rws rs) h.dL, h.rows⟩
theorem rw_tup {K : PySem.W.Frag} {H : Hp} {v : V} {r : Rw} (h : Dp K H v (rwD r)) : ∃ (ax b : Addr) (ws : List V), v = .ref ax ∧ SqT K H ax [.str r.nm, .int (r.off : Int), .ref b] ∧ SqT K H b ws ∧ DpAll K H ws (r.sts.map stD) := by
  cases h with
  | tup q dx =>
    cases dx with
    | cons d1 dx =>
      cases d1
      cases dx with
      | cons d2 dx =>
        cases d2
        cases dx with
        | cons d3 dx =>
          cases dx
          cases d3 with
          | tup q2 r2 => exact ⟨_, _, _, rfl, q, q2, r2⟩
def spSum (K : PySem.W.Frag) : Sp := fun vs H Q _ => ∃ (t Ld : Addr) (xs : List V) (size : Nat) (rs : List Rw), vs = [.ref t] ∧ Plan K H t Ld xs size rs ∧ (rs.length ≤ 1000 ∧ ∀ r ∈ rs, r.sts.length ≤ 1000) ∧ ∀ (p : Addr) (H' : Hp), H p = none → Same H H' → H' p = some (.lst (nI (cnts size rs))) → Q (.ref p) H'
def spMks (K : PySem.W.Frag) : Sp := fun vs H Q _ => ∃ (v : V) (r : Rw), vs = [v] ∧ Dp K H v (rwD r) ∧ r.sts.length ≤ 1000 ∧ ∀ (p : Addr) (H' : Hp) (zs : List V), H p = none → Same H H' → H' p = some (.lst zs) → DpAll K H' zs ((mkR r).map mkD) → Q (.ref p) H'
def spSpo (K : PySem.W.Frag) : Sp := fun vs H Q _ => ∃ (c t Ld : Addr) (xs : List V) (size : Nat) (rs : List Rw) (B : Nat), vs = [.ref c, .ref t] ∧ Plan K H t Ld xs size rs ∧ 1 ≤ rs.length ∧ rs.length ≤ 1000 ∧ CR H c B ∧ B + 10 < 10 ^ 12 ∧ ∀ (p : Addr) (H' : Hp) (i : Nat) (z : Int), CR H' c (B + 10) → Bt c H H' → H' p = some (.tup [.int i, .int z]) → i < rs.length → Q (.ref p) H'
section
variable {P : Program} {w : World} {K : PySem.W.Frag} {mg : Str → Option Value} {base : Heap}
abbrev sSum : Stmt := top 40
theorem scSum : FnScope ["plan", "found", "line", "part"] ["plan"] (defScope sSum) := ⟨rfl, rfl, rfl, by decide +kernel, rfl, by decide +kernel, by decide +kernel⟩
theorem ok_Sum {f : Addr} {fd : FuncData} (F : Fun K "_law_sums" "_law_sums" sSum f fd) (B : Bl mg) : FnOk P w K mg base CX0 1 f fd ["plan"] (spSum K) := by
  refine F.ok scSum (fun vs H Q E h => ?_) (fun cdv A outer s H vs Q E hr h => ?_)
  · obtain ⟨t, Ld, xs, size, rs, rfl, _⟩ := h
    rfl
  · obtain ⟨t, Ld, xs, size, rs, rfl, pl, few, k⟩ := h
    refine ⟨_, pss_cons (ps_set (i := 1) scSum.nd rfl (Or.inl rfl) (pe_lst (pa_cons (pe_ix (ixt (K := K)) (pv 0) pe_int (fun _ _ => rfl)) pa_nil)))
      (pss_cons (ps_for PassesOwn.never rfl (pi_list (pe_ix (ixt (K := K)) (pv 0) pe_int (fun _ _ => rfl))) (pg_name (i := 2) scSum.nd rfl (Or.inl rfl)) (pss_one (ps_expr (pe_bm PySem.F.plainAttrs_list PySem.F.slot_list_append PySem.F.type_list_append mt_append (pv 1) (pa_cons (pe_callB (cr_sum rfl) (by rfl) (B "sum" (by decide)) (by decide +kernel) (pa_cons (pe_lc (own := [("part", 3)]) (g := gName 3) (tt := tYes) rfl scSum.nd (pi_tup (pe_ix (ixt (K := K)) (pv 2) pe_int (fun _ _ => rfl))) (blkOk_by (N := ["plan", "found", "line", "part"]) (sc := defScope sSum) (by decide +kernel)) (fun _ _ _ _ _ => pg_name (i := 3) scSum.nd rfl (Or.inl rfl)) (fun _ _ _ _ _ => pts_nil) (fun _ _ _ _ _ => pe_ix (ixt (K := K)) (pv 3) pe_int (fun _ _ => rfl))) pa_nil)) pa_nil)))))
      (pss_one (ps_ret (pv 1)))), ?_⟩
    have ty2 : sizeLine = 16777216 := sizeLine_eq
    have xl := dps_len pl.dL
    rw [List.length_map] at xl
    refine ⟨_, rfl, t, _, 0, _, rfl, rfl, SqT.of pl.et, atI_nat (j := 0) rfl, by show 1 ≤ sizeLine; decide, fun D nD => ?_⟩
    have t1 := same_new (o := .lst [.int (size : Int)]) nD
    dsimp only [gName, List.set, tSeq]
    refine ⟨_, rfl, t, _, 1, _, rfl, rfl, SqT.of (t1 _ _ pl.et), atI_nat (j := 1) rfl, Ld, rfl, ⟨_, SqL.of (t1 _ _ pl.eL)⟩, ?_⟩
    refine for_list (K := K) (a := Ld) (xs := xs) (fun i σ Hn => ∃ (o2 o3 : Option V), σ = [some (.ref t), some (.ref D), o2, o3] ∧ Same H Hn ∧ Hn D = some (.lst (nI ((cnts size rs).take (i + 1)))))
      ⟨_, _, rfl, t1, upd_same⟩ (fun i σ Hn hi hI => by obtain ⟨_, _, _, s, _⟩ := hI; exact SqL.of (s _ _ pl.eL)) (fun i x σ Hn hx hI => ?_) (fun σ Hn hI => ?_)
    · obtain ⟨o2, o3, rfl, s, eD⟩ := hI
      have il := (List.getElem?_eq_some_iff.mp hx).1
      obtain ⟨r, hr'⟩ : ∃ r, rs[i]? = some r := ⟨_, List.getElem?_eq_getElem (by omega)⟩
      obtain ⟨a, c1, c2, okr⟩ := rows_at pl.rows hr'
      obtain ⟨ax, b, ws, rfl, hax, hw, dw⟩ := rw_tup (dp_same s (dps_get pl.dL hx (by rw [List.getElem?_map, hr']; rfl)))
      have wl := dps_len dw
      rw [List.length_map] at wl
      have fw := few.2 r (List.mem_of_getElem? hr')
      have tk2 : (cnts size rs).take (i + 1 + 1) = (cnts size rs).take (i + 1) ++ [drs r.sts] := by
        rw [List.take_add_one, c2]
        rfl
      dsimp only [gName, List.set, tSeq]
      have ez : (ws.zip r.sts).map (fun z => z.1) = ws := by rw [show (fun z : V × Sti => z.1) = Prod.fst from rfl, List.map_fst_zip (by omega)]
      refine ⟨_, rfl, .inl ⟨rfl, _, SqL.of eD⟩, ?_⟩
      refine ⟨_, rfl, ax, _, 2, _, rfl, rfl, hax, atI_nat (j := 2) rfl, b, rfl, ⟨_, by rw [← ez] at hw; exact hw⟩, fun M nM => ?_⟩
      refine lcf_tup (ns := ws.zip r.sts) (c := fun z : V × Sti => z.1) (fun _ => true) (fun z => V.int (z.2.2 : Int)) (by rw [ez]; exact hw) nM (by rw [List.length_zip]; omega) (fun j z H4 yes no hz s4 y n => ⟨rfl, ?_⟩) (fun H4 s4 eM => ?_)
      · obtain ⟨z1, z2⟩ := List.getElem?_zip_eq_some.mp hz
        obtain ⟨q, e1, q1⟩ := st_tup (dp_same s4 (dps_get dw z1 (by rw [List.getElem?_map, z2]; rfl)))
        rw [e1]
        exact ⟨_, rfl, q, _, 1, _, rfl, rfl, q1, atI_nat (j := 1) rfl, y rfl _ (Same.refl _)⟩
      have tm : ((ws.zip r.sts).filter fun _ => true).map (fun z => V.int (z.2.2 : Int)) = (r.sts.map fun s => (s.2 : Int)).map V.int := by
        rw [List.filter_eq_self.mpr (fun _ _ => rfl), List.map_map]
        conv => rhs; rw [← List.map_snd_zip (l₁ := ws) (l₂ := r.sts) (by omega), List.map_map]
        rfl
      rw [tm] at eM
      have eD4 := s4 _ _ eD
      have cl := cnts_len size rs
      refine ⟨M, _, rfl, SqL.of eM, D, _, _, rfl, rfl, eD4, by rw [List.length_map, List.length_take]; omega, ?_⟩
      rw [sum_drs]
      refine ⟨_, _, rfl, fun b' o e => ?_, ?_⟩
      · rw [upd_ne (ne_of_none e nD)]
        exact (s.trans s4) _ _ e
      · rw [upd_same, tk2, nI_app]
        rfl
    · obtain ⟨o2, o3, rfl, s, eD⟩ := hI
      rw [List.take_of_length_le (by rw [cnts_len]; omega)] at eD
      exact ⟨_, rfl, k D Hn nD s eD⟩
abbrev sMks : Stmt := top 41
theorem scMks : FnScope ["line", "found", "near", "far", "many", "made"] ["line"] (defScope sMks) := ⟨rfl, rfl, rfl, by decide +kernel, rfl, by decide +kernel, by decide +kernel⟩
theorem ok_Mks {f : Addr} {fd : FuncData} (F : Fun K "_law_marks" "_law_marks" sMks f fd) (B : Bl mg) : FnOk P w K mg base CX0 1 f fd ["line"] (spMks K) := by
  refine F.ok scMks (fun vs H Q E h => ?_) (fun cdv A outer s H vs Q E hr h => ?_)
  · obtain ⟨v, r, rfl, _⟩ := h
    rfl
  · obtain ⟨v, r, rfl, hv, few, k⟩ := h
    refine ⟨_, pss_cons (ps_par3 (i := 1) (j := 2) (l := 3) rfl scMks.nd rfl rfl rfl (by decide) (by decide) (by decide) rfl rfl rfl (pa_cons (pe_lst pa_nil) (pa_cons pe_int (pa_cons pe_int pa_nil))) (by rfl))
      (pss_cons (ps_for PassesOwn.never rfl (pi_tup (pe_ix (ixt (K := K)) (pv 0) pe_int (fun _ _ => rfl))) (pg_tup rfl (pgs_cons (pg_name (i := 4) scMks.nd rfl (Or.inl rfl)) (pgs_cons (pg_name (i := 5) scMks.nd rfl (Or.inl rfl)) pgs_nil))) (pss_cons (ps_expr (pe_bm PySem.F.plainAttrs_list PySem.F.slot_list_append PySem.F.type_list_append mt_append (pv 1) (pa_cons (pe_tup (pa_cons (pv 2) (pa_cons (pv 4) (pa_cons (pv 3) (pa_cons (pv 5) pa_nil))))) pa_nil)))
      (pss_one (ps_par (i := 2) (j := 3) rfl scMks.nd rfl rfl (by decide) rfl rfl (pa_cons (pe_op op_add (pv 2) (pv 4)) (pa_cons (pe_op op_add (pv 3) (pv 5)) pa_nil)) (by rfl)))))
      (pss_one (ps_ret (pv 1)))), ?_⟩
    have ty2 : sizeLine = 16777216 := sizeLine_eq
    obtain ⟨ax, b, ws, rfl, hax, hw, dw⟩ := rw_tup hv
    have wl := dps_len dw
    rw [List.length_map] at wl
    refine ⟨by show 0 ≤ sizeLine; decide, fun D nD => ?_⟩
    refine ⟨_, _, _, rfl, ?_⟩
    have t2 := same_new (o := .lst []) nD
    dsimp only [gName, List.set, tSeq]
    have hw2 := same_tup t2 hw
    refine ⟨_, rfl, ax, _, 2, _, rfl, rfl, same_tup t2 hax, atI_nat (j := 2) rfl, b, rfl, ⟨_, hw2⟩, ?_⟩
    refine for_tup (K := K) (a := b) (xs := ws) (fun j σ Hn => ∃ (zs : List V) (o4 o5 : Option V), σ = [some (.ref ax), some (.ref D), some (.int ((tks (r.sts.take j) : Nat) : Int)), some (.int ((drs (r.sts.take j) : Nat) : Int)), o4, o5] ∧ Hn D = some (.lst zs) ∧ DpAll K Hn zs ((mks 0 0 (r.sts.take j)).map mkD) ∧ Same H Hn)
      ⟨[], _, _, rfl, upd_same, .nil, t2⟩ (fun j σ Hn hj hI => by obtain ⟨_, _, _, _, _, _, s⟩ := hI; exact same_tup s hw) (fun j v σ Hn hv2 hI => ?_) (fun σ Hn hI => ?_)
    · obtain ⟨zs, o4, o5, rfl, eD, dz, sH⟩ := hI
      have jl := (List.getElem?_eq_some_iff.mp hv2).1
      obtain ⟨s, hs⟩ : ∃ s, r.sts[j]? = some s := ⟨_, List.getElem?_eq_getElem (by omega)⟩
      obtain ⟨q, rfl, hq⟩ := st_tup (dp_same sH (dps_get dw hv2 (by rw [List.getElem?_map, hs]; rfl)))
      have zl := dps_len dz
      rw [List.length_map, mks_len, List.length_take] at zl
      have tk1 : r.sts.take (j + 1) = r.sts.take j ++ [s] := by
        rw [List.take_add_one, hs]
        rfl
      have tks1 : tks (r.sts.take (j + 1)) = tks (r.sts.take j) + s.1 := by
        rw [tk1, tks_app]
        rfl
      have drs1 : drs (r.sts.take (j + 1)) = drs (r.sts.take j) + s.2 := by
        rw [tk1, drs_app]
        rfl
      have mks1 : mks 0 0 (r.sts.take (j + 1)) = mks 0 0 (r.sts.take j) ++ [⟨tks (r.sts.take j), s.1, drs (r.sts.take j), s.2⟩] := by
        rw [tk1, mks_app, Nat.zero_add, Nat.zero_add]
        rfl
      rw [tks1, drs1, mks1]
      generalize tks (r.sts.take j) = tt
      generalize drs (r.sts.take j) = dd
      generalize mks 0 0 (r.sts.take j) = SS at dz ⊢
      refine ⟨q, _, rfl, hq, rfl, ?_⟩
      refine ⟨_, _, rfl, _, _, rfl, rfl, ?_⟩
      dsimp only [gName, gCons, gNil, List.set, tSeq]
      refine ⟨_, rfl, .inl ⟨rfl, _, SqL.of eD⟩, ?_⟩
      refine ⟨_, rfl, _, rfl, _, rfl, _, rfl, by show 4 ≤ sizeLine; decide, fun u nu => ?_⟩
      have tu := same_new (o := .tup [.int (tt : Int), .int (s.1 : Int), .int (dd : Int), .int (s.2 : Int)]) nu
      have eu := upd_same (H := Hn) (a := u) (o := .tup [.int (tt : Int), .int (s.1 : Int), .int (dd : Int), .int (s.2 : Int)])
      have Du : D ≠ u := ne_none eD nu
      refine ⟨D, _, _, rfl, rfl, tu _ _ eD, by omega, ?_⟩
      have tlo : Tl Hn (upd (upd Hn u (.tup [.int (tt : Int), .int (s.1 : Int), .int (dd : Int), .int (s.2 : Int)])) D (.lst (zs ++ [.ref u]))) := (Tl.same tu).trans (Tl.own (tu _ _ eD))
      refine ⟨_, rfl, _, rfl, _, _, rfl, rfl, _, rfl, _, rfl, _, _, rfl, rfl, _, _, rfl, ?_⟩
      refine ⟨zs ++ [.ref u], some (.int (s.1 : Int)), some (.int (s.2 : Int)), ?_, upd_same, ?_, fun b' o e => ?_⟩
      · dsimp only [List.set]
        rw [show ((tt + s.1 : Nat) : Int) = (tt : Int) + (s.1 : Int) by omega, show ((dd + s.2 : Nat) : Int) = (dd : Int) + (s.2 : Int) by omega]
      · rw [List.map_append]
        refine dps_app (dps_tl tlo (noLs_mkD _) dz) (.cons (.tup (xs := [.int (tt : Int), .int (s.1 : Int), .int (dd : Int), .int (s.2 : Int)]) (SqT.of ?_) (.cons (.int _) (.cons (.int _) (.cons (.int _) (.cons (.int _) .nil))))) .nil)
        rw [upd_ne Du.symm]
        exact eu
      · rw [upd_ne (ne_none e nD)]
        exact tu _ _ (sH _ _ e)
    · obtain ⟨zs, o4, o5, rfl, eD, dz, sH⟩ := hI
      rw [List.take_of_length_le (by omega)] at dz
      exact ⟨_, rfl, k D Hn zs nD sH eD dz⟩
abbrev sSpo : Stmt := top 39
theorem scSpo : FnScope ["creel", "plan", "at", "mark"] ["creel", "plan"] (defScope sSpo) := ⟨rfl, rfl, rfl, by decide +kernel, rfl, by decide +kernel, by decide +kernel⟩
theorem ok_Spo {f : Addr} {fd : FuncData} (F : Fun K "_law_spot" "_law_spot" sSpo f fd) (B : Bl mg)
    {f__law_ply : Addr} {d__law_ply : FuncData} (G__law_ply : FnOk P w K mg base CX0 1 f__law_ply d__law_ply ["creel", "span"] spPly) (g__law_ply : mg "_law_ply" = some (.ref f__law_ply)) (k__law_ply : PySem.W.keepIn K (.ref f__law_ply) = true) (b__law_ply : Binds K d__law_ply ["creel", "span"] []) : FnOk P w K mg base CX0 2 f fd ["creel", "plan"] (spSpo K) := by
  refine F.ok scSpo (fun vs H Q E h => ?_) (fun cdv A outer s H vs Q E hr h => ?_)
  · obtain ⟨c, t, Ld, xs, size, rs, _, rfl, _⟩ := h
    rfl
  · obtain ⟨c, t, Ld, xs, size, rs, bb, rfl, pl, rl1, rl2, hc, hB, k⟩ := h
    refine ⟨_, pss_cons (ps_set (i := 2) scSpo.nd rfl (Or.inl rfl) (pe_call (E := E0) G__law_ply (hr.mono (by decide)) rfl g__law_ply k__law_ply b__law_ply .nil pass0 (pa_cons (pv 0) (pa_cons (pe_callB call_len_seq (by rfl) (B "len" (by decide)) (by decide +kernel) (pa_cons (pe_ix (ixt (K := K)) (pv 1) pe_int (fun _ _ => rfl)) pa_nil)) pa_nil))))
      (pss_cons (ps_set (i := 3) scSpo.nd rfl (Or.inl rfl) (pe_lst (pa_cons (pe_call (E := E0) G__law_ply (hr.mono (by decide)) rfl g__law_ply k__law_ply b__law_ply .nil pass0 (pa_cons (pv 0) (pa_cons pe_int pa_nil))) (pa_cons (pe_op op_sub (pe_call (E := E0) G__law_ply (hr.mono (by decide)) rfl g__law_ply k__law_ply b__law_ply .nil pass0 (pa_cons (pv 0) (pa_cons pe_int pa_nil))) pe_int) (pa_cons pe_int (pa_cons (pe_op op_add (pe_op op_pow pe_int pe_int) (pe_call (E := E0) G__law_ply (hr.mono (by decide)) rfl g__law_ply k__law_ply b__law_ply .nil pass0 (pa_cons (pv 0) (pa_cons pe_int pa_nil)))) pa_nil))))))
      (pss_one (ps_ret (pe_tup (pa_cons (pv 2) (pa_cons (pe_ix ix_list (pe_op op_cat (pv 3) (pe_lst (pa_cons (pe_op op_sub (pe_op op_sub pe_int (pe_op op_pow pe_int pe_int)) (pe_call (E := E0) G__law_ply (hr.mono (by decide)) rfl g__law_ply k__law_ply b__law_ply .nil pass0 (pa_cons (pv 0) (pa_cons pe_int pa_nil)))) pa_nil))) (pe_call (E := E0) G__law_ply (hr.mono (by decide)) rfl g__law_ply k__law_ply b__law_ply .nil pass0 (pa_cons (pv 0) (pa_cons pe_int pa_nil))) (fun _ _ => rfl)) pa_nil)))))), ?_⟩
    have ty2 : sizeLine = 16777216 := sizeLine_eq
    have xl := dps_len pl.dL
    rw [List.length_map] at xl
    refine ⟨_, rfl, _, rfl, t, _, 1, _, rfl, rfl, SqT.of pl.et, atI_nat (j := 1) rfl, Ld, _, rfl, .inl (SqL.of pl.eL), ?_⟩
    rw [xl]
    refine ⟨c, rs.length, bb, rfl, by omega, by omega, hc, by omega, fun d H1 d0 d1 c1 b1 _ => ?_⟩
    obtain ⟨i, rfl⟩ := Int.eq_ofNat_of_zero_le d0
    dsimp only [gName, List.set, tSeq]
    refine ⟨_, rfl, c, 9, _, rfl, by decide, by decide, c1, by omega, fun m1 H2 _ _ c2 b2 _ => ?_⟩
    refine ⟨_, rfl, c, 60, _, rfl, by decide, by decide, c2, by omega, fun m2 H3 _ _ c3 b3 _ => ⟨_, _, rfl, rfl, ?_⟩⟩
    refine ⟨_, _, rfl, rfl, ⟨by decide, by decide, by decide⟩, _, rfl, c, 99, _, rfl, by decide, by decide, c3, by omega, fun m4 H4 _ _ c4 b4 _ => ⟨_, _, rfl, rfl, ?_⟩⟩
    refine ⟨by show 4 ≤ sizeLine; decide, fun D nD => ?_⟩
    have tD := same_new (o := .lst [.int m1, .int (m2 - 30), .int 0, .int (10 ^ 28 + m4)]) nD
    have eD := upd_same (H := H4) (a := D) (o := .lst [.int m1, .int (m2 - 30), .int 0, .int (10 ^ 28 + m4)])
    have Dc := cr_ne c4 nD
    have c5 := c4.same tD
    have b05 := (((b1.trans b2).trans b3).trans b4).trans (Bt.of (c := c) tD)
    change gName _ (V.ref D) _ (upd H4 D (.lst [.int m1, .int (m2 - 30), .int 0, .int (10 ^ 28 + m4)])) _
    generalize upd H4 D (.lst [.int m1, .int (m2 - 30), .int 0, .int (10 ^ 28 + m4)]) = H5 at eD c5 b05
    dsimp only [gName, List.set]
    refine ⟨_, rfl, _, rfl, _, _, rfl, rfl, ⟨by decide, by decide, by decide⟩, _, _, rfl, rfl, _, rfl, c, 9, _, rfl, by decide, by decide, c5, by omega, fun m5 H6 _ _ c6 b6 _ => ⟨_, _, rfl, rfl, ?_⟩⟩
    refine ⟨by show 1 ≤ sizeLine; decide, fun E nE => ?_⟩
    change ∃ _, _
    have tE := same_new (o := .lst [.int (0 - 10 ^ 28 - m5)]) nE
    have eE := upd_same (H := H6) (a := E) (o := .lst [.int (0 - 10 ^ 28 - m5)])
    refine ⟨D, E, _, _, rfl, rfl, tE _ _ (b6 _ _ Dc eD), eE, by show 4 + 1 ≤ sizeLine; decide, fun G nG => ?_⟩
    have tG := tE.trans (same_new (o := .lst ([V.int m1, .int (m2 - 30), .int 0, .int (10 ^ 28 + m4)] ++ [V.int (0 - 10 ^ 28 - m5)])) nG)
    have eG := upd_same (H := upd H6 E (.lst [.int (0 - 10 ^ 28 - m5)])) (a := G) (o := .lst ([V.int m1, .int (m2 - 30), .int 0, .int (10 ^ 28 + m4)] ++ [V.int (0 - 10 ^ 28 - m5)]))
    have Gc := cr_ne (c6.same tE) nG
    have c7 := c6.same tG
    have b07 := (b05.trans b6).trans (Bt.of (c := c) tG)
    refine ⟨_, rfl, c, 5, _, rfl, by decide, by decide, c7, by omega, fun q H8 q0 q1 c8 b8 _ => ?_⟩
    obtain ⟨qn, rfl⟩ := Int.eq_ofNat_of_zero_le q0
    obtain ⟨z, hz⟩ : ∃ z : Int, ([V.int m1, .int (m2 - 30), .int 0, .int (10 ^ 28 + m4)] ++ [V.int (0 - 10 ^ 28 - m5)])[qn]? = some (V.int z) := by
      match qn, q1 with
      | 0, _ => exact ⟨_, rfl⟩
      | 1, _ => exact ⟨_, rfl⟩
      | 2, _ => exact ⟨_, rfl⟩
      | 3, _ => exact ⟨_, rfl⟩
      | 4, _ => exact ⟨_, rfl⟩
      | n + 5, h => exact absurd h (by omega)
    refine ⟨G, _, _, _, rfl, rfl, SqL.of (b8 _ _ Gc eG), atI_nat hz, by show 2 ≤ sizeLine; decide, fun p np => ?_⟩
    exact k p _ i z ((c8.same (same_new np)).mono (by omega)) (b07.trans (b8.trans (Bt.of (same_new np)))) upd_same (by omega)
end
end S8
/-! low, high -/
namespace S8
open PySem PySem.Spec PyProof.Rows L2 LK MXi MY MZ
theorem zip_filt {α β : Type} : ∀ {zs : List V} {ms : List α} (_ : zs.length = ms.length), ∀ (g : α → Bool) (h : α → β), ((zs.zip ms).filter fun q => g q.2).map (fun q => h q.2) = (ms.filter g).map h
  | [], [], _, g, h => rfl
  | z :: zs, m :: ms, l, g, h => by
    have := zip_filt (zs := zs) (ms := ms) (by simpa using l) g h
    rw [List.zip_cons_cons]
    by_cases c : g m = true
    · rw [List.filter_cons_of_pos (p := fun q : V × α => g q.2) c, List.filter_cons_of_pos c, List.map_cons, List.map_cons, this]
    · rw [List.filter_cons_of_neg (p := fun q : V × α => g q.2) c, List.filter_cons_of_neg c, this]
theorem dps_snoc {K : PySem.W.Frag} {H : Hp} {d : PyData} : ∀ {ds : List PyData} {vs : List V}, DpAll K H vs (ds ++ [d]) → ∃ us u, vs = us ++ [u] ∧ Dp K H u d
  | [], _, .cons a .nil => ⟨[], _, rfl, a⟩
  | x :: ds, _, .cons a r => by
    obtain ⟨us, u, e, h⟩ := dps_snoc (ds := ds) r
    exact ⟨_ :: us, u, by rw [e]; rfl, h⟩
theorem rev_before {l : List Mrk} (h : l.Pairwise fun p q => p.fr + p.md ≤ q.fr ∧ p.nr + p.mn ≤ q.nr) (h1 : ∀ m ∈ l, 1 ≤ m.md) {i j : Nat} {p q : Mrk} (_ : p ∈ l) (_ : q ∈ l) (hi : l.reverse[i]? = some p) (hj : l.reverse[j]? = some q) (lt : q.fr + q.md - 1 < p.fr + p.md - 1) : i < j := by
  obtain ⟨il, ei⟩ := List.getElem?_eq_some_iff.mp hi
  obtain ⟨jl, ej⟩ := List.getElem?_eq_some_iff.mp hj
  have hr := List.pairwise_reverse.mpr (show l.Pairwise fun a b => (fun p q : Mrk => q.fr + q.md ≤ p.fr) b a from h.imp fun z => z.1)
  rcases Nat.lt_trichotomy i j with c | c | c
  · exact c
  · subst c
    rw [ei] at ej
    rw [ej] at lt
    omega
  · have := List.pairwise_iff_getElem.mp hr j i jl il c
    rw [ei, ej] at this
    have := h1 p (List.mem_reverse.mp (List.mem_of_getElem? hi))
    have := h1 q (List.mem_reverse.mp (List.mem_of_getElem? hj))
    omega
def spLaE (K : PySem.W.Frag) (st : Nat → List Rw → Nat → Int → Int) : Sp := fun vs H Q _ => ∃ (t Ld : Addr) (xs : List V) (i : Nat) (z : Int) (size : Nat) (rs : List Rw), vs = [.ref t, .int i, .int z] ∧ Plan K H t Ld xs size rs ∧ OkCh size rs ∧ i < rs.length ∧ ∀ H', Same H H' → Q (.int (st size rs i z)) H'
section
variable {P : Program} {w : World} {K : PySem.W.Frag} {mg : Str → Option Value} {base : Heap}
abbrev sLow : Stmt := top 42
theorem scLow : FnScope ["plan", "at", "mark", "line", "sums_here", "lap", "near", "many", "far", "made", "part"] ["plan", "at", "mark"] (defScope sLow) := ⟨rfl, rfl, rfl, by decide +kernel, rfl, by decide +kernel, by decide +kernel⟩
theorem ok_Low {f : Addr} {fd : FuncData} (F : Fun K "_law_low" "_law_low" sLow f fd) (B : Bl mg)
    {f__law_sums : Addr} {d__law_sums : FuncData} (G__law_sums : FnOk P w K mg base CX0 1 f__law_sums d__law_sums ["plan"] (spSum K)) (g__law_sums : mg "_law_sums" = some (.ref f__law_sums)) (k__law_sums : PySem.W.keepIn K (.ref f__law_sums) = true) (b__law_sums : Binds K d__law_sums ["plan"] [])
    {f__law_marks : Addr} {d__law_marks : FuncData} (G__law_marks : FnOk P w K mg base CX0 1 f__law_marks d__law_marks ["line"] (spMks K)) (g__law_marks : mg "_law_marks" = some (.ref f__law_marks)) (k__law_marks : PySem.W.keepIn K (.ref f__law_marks) = true) (b__law_marks : Binds K d__law_marks ["line"] []) : FnOk P w K mg base CX0 2 f fd ["plan", "at", "mark"] (spLaE K lEnd) := by
  refine F.ok scLow (fun vs H Q E h => ?_) (fun cdv A outer s H vs Q E hr h => ?_)
  · obtain ⟨t, Ld, xs, i, z, size, rs, rfl, _⟩ := h
    rfl
  · obtain ⟨t, Ld, xs, i, z, size, rs, rfl, pl, ok, il, k⟩ := h
    refine ⟨_, pss_cons (ps_par (i := 3) (j := 4) rfl scLow.nd rfl rfl (by decide) rfl rfl (pa_cons (pe_ix ix_list (pe_ix (ixt (K := K)) (pv 0) pe_int (fun _ _ => rfl)) (pv 1) (fun _ _ => rfl)) (pa_cons (pe_call (E := E0) G__law_sums (hr.mono (by decide)) rfl g__law_sums k__law_sums b__law_sums .nil pass0 (pa_cons (pv 0) pa_nil)) pa_nil)) (by rfl))
      (pss_cons (ps_set (i := 5) scLow.nd rfl (Or.inl rfl) (pe_op op_fdivW (pv 2) (pe_ix ix_list (pv 4) (pe_op op_add (pv 1) pe_int) (fun _ _ => rfl))))
      (pss_cons (ps_for PassesOwn.never rfl (pi_list (pe_call (E := E0) G__law_marks (hr.mono (by decide)) rfl g__law_marks k__law_marks b__law_marks .nil pass0 (pa_cons (pv 3) pa_nil))) (pg_tup rfl (pgs_cons (pg_name (i := 6) scLow.nd rfl (Or.inl rfl)) (pgs_cons (pg_name (i := 7) scLow.nd rfl (Or.inl rfl)) (pgs_cons (pg_name (i := 8) scLow.nd rfl (Or.inl rfl)) (pgs_cons (pg_name (i := 9) scLow.nd rfl (Or.inl rfl)) pgs_nil))))) (pss_one (ps_if (PW.pt (pw_and (pt_cmpR op_gt (pv 7) pe_int (nomark _)) (pw_and1 (pt_cmpR op_ge (pe_op op_add (pe_op op_mul (pv 5) (pe_ix ix_list (pv 4) (pe_op op_add (pv 1) pe_int) (fun _ _ => rfl))) (pv 8)) (pv 2) (nomark _))))) (pss_one (ps_ret (pe_op op_add (pe_op op_add (pe_op op_mul (pv 5) (pe_ix ix_list (pv 4) (pv 1) (fun _ _ => rfl))) (pe_ix (ixt (K := K)) (pv 3) pe_int (fun _ _ => rfl))) (pv 6)))) pss_nil)))
      (pss_cons (ps_set (i := 6) scLow.nd rfl (Or.inl rfl) (pe_ix ix_list (pe_lc (own := [("part", 10)]) (g := gName 10) rfl scLow.nd (pi_list (pe_call (E := E0) G__law_marks (hr.mono (by decide)) rfl g__law_marks k__law_marks b__law_marks .nil pass0 (pa_cons (pv 3) pa_nil))) (blkOk_by (N := ["plan", "at", "mark", "line", "sums_here", "lap", "near", "many", "far", "made", "part"]) (sc := defScope sLow) (by decide +kernel)) (fun _ _ _ _ _ => pg_name (i := 10) scLow.nd rfl (Or.inl rfl)) (fun _ _ _ _ _ => pts_one (pt_cmpR op_gt (pe_ix (ixt (K := K)) (pv 10) pe_int (fun _ _ => rfl)) pe_int (nomark _))) (fun _ _ _ _ _ => pe_ix (ixt (K := K)) (pv 10) pe_int (fun _ _ => rfl))) pe_int (fun _ _ => rfl)))
      (pss_one (ps_ret (pe_op op_add (pe_op op_add (pe_op op_mul (pe_op op_add (pv 5) pe_int) (pe_ix ix_list (pv 4) (pv 1) (fun _ _ => rfl))) (pe_ix (ixt (K := K)) (pv 3) pe_int (fun _ _ => rfl))) (pv 6))))))), ?_⟩
    have ty2 : sizeLine = 16777216 := sizeLine_eq
    obtain ⟨er, okr, dr, ec1, ec2⟩ := ok.row il
    have b1 := ok.cn1 i
    have b2 := ok.cn1 (i + 1)
    have sp := ok.sp il
    have rl := ok.rl
    have few := ok.few _ (List.mem_of_getElem? er)
    obtain ⟨mo, md1⟩ := okr.mrk
    have xl := dps_len pl.dL
    rw [List.length_map] at xl
    obtain ⟨v, hv⟩ : ∃ v, xs[i]? = some v := ⟨_, List.getElem?_eq_getElem (by omega)⟩
    have dv := dps_get pl.dL hv (by rw [List.getElem?_map, er]; rfl)
    obtain ⟨ax, bx, ws, rfl, hax, hw, dw⟩ := rw_tup dv
    refine ⟨_, rfl, t, _, 1, _, rfl, rfl, SqT.of pl.et, atI_nat (j := 1) rfl, _, rfl, Ld, _, (i : Int), _, rfl, rfl, SqL.of pl.eL, atI_nat hv, ?_⟩
    refine ⟨_, rfl, t, Ld, xs, size, rs, rfl, pl, ⟨rl.2, ok.few⟩, fun p H1 np s1 ep => ?_⟩
    refine ⟨_, _, rfl, ?_⟩
    dsimp only [gName, List.set, tSeq]
    refine ⟨_, rfl, _, rfl, _, rfl, _, _, rfl, rfl, p, _, ((i + 1 : Nat) : Int), .int (cn size rs (i + 1) : Int), rfl, by rfl, SqL.of ep, atI_nat (nI_get ec2), _, _, rfl, rfl, wide_div (b := 20) (by omega) (by omega) (by decide) (by decide), ?_⟩
    dsimp only [gName, List.set, tSeq]
    have lE_ : lEnd size rs i z = lE (spR (rwAt rs i)) (cn size rs i) (cn size rs (i + 1)) z := rfl
    generalize hlap : z / (cn size rs (i + 1) : Int) = lap
    have hax1 := same_tup s1 hax
    refine stR (fun σ Hn => ∃ (o6 o7 o8 o9 o10 : Option V), σ = [some (.ref t), some (.int (i : Int)), some (.int z), some (.ref ax), some (.ref p), some (.int lap), o6, o7, o8, o9, o10] ∧ Same H1 Hn ∧ ∀ m ∈ mkR (rwAt rs i), 0 < m.mn → (m.fr : Int) + lap * (cn size rs (i + 1) : Int) < z) (fun D' ret aft => ?_) ?_
    · refine ⟨_, rfl, .ref ax, rwAt rs i, rfl, dp_same s1 dv, few, fun D H2 zs nD s2 eD dz => ?_⟩
      have zl := dps_len dz
      rw [List.length_map] at zl
      refine ⟨D, rfl, ⟨_, SqL.of eD⟩, ?_⟩
      refine for_list (K := K) (a := D) (xs := zs) (fun j σ Hn => ∃ (o6 o7 o8 o9 o10 : Option V), σ = [some (.ref t), some (.int (i : Int)), some (.int z), some (.ref ax), some (.ref p), some (.int lap), o6, o7, o8, o9, o10] ∧ Same H2 Hn ∧ ∀ (k : Nat) (m : Mrk), k < j → (mkR (rwAt rs i))[k]? = some m → 0 < m.mn → (m.fr : Int) + lap * (cn size rs (i + 1) : Int) < z)
        ⟨_, _, _, _, _, rfl, Same.refl _, fun k m hk => absurd hk (Nat.not_lt_zero _)⟩ (fun j σ Hn hj hI => by obtain ⟨_, _, _, _, _, _, s, _⟩ := hI; exact SqL.of (s _ _ eD)) (fun j x σ Hn hx hI => ?_) (fun σ Hn hI => ?_)
      · obtain ⟨o6, o7, o8, o9, o10, rfl, s, inv⟩ := hI
        have jl := (List.getElem?_eq_some_iff.mp hx).1
        obtain ⟨m, hm⟩ : ∃ m, (mkR (rwAt rs i))[j]? = some m := ⟨_, List.getElem?_eq_getElem (by omega)⟩
        obtain ⟨u, rfl, hu⟩ := mk_tup (dp_same s (dps_get dz hx (by rw [List.getElem?_map, hm]; rfl)))
        have s1n := s2.trans s
        have epn := s1n _ _ ep
        refine ⟨u, _, rfl, hu, rfl, ?_⟩
        refine ⟨_, _, rfl, _, _, rfl, _, _, rfl, _, _, rfl, rfl, ?_⟩
        dsimp only [gName, gCons, gNil, List.set, tSeq]
        have no : (0 < m.mn → (m.fr : Int) + lap * (cn size rs (i + 1) : Int) < z) → ∀ (k : Nat) (m' : Mrk), k < j + 1 → (mkR (rwAt rs i))[k]? = some m' → 0 < m'.mn → (m'.fr : Int) + lap * (cn size rs (i + 1) : Int) < z := fun h k m' hk hm' => by
          rcases Nat.lt_or_ge k j with c | c
          · exact inv k m' c hm'
          · obtain rfl : k = j := by omega
            obtain rfl : m' = m := Option.some.inj (hm'.symm.trans hm)
            exact h
        refine ⟨_, rfl, _, _, rfl, rfl, _, rfl, ?_⟩
        by_cases c0 : 0 < m.mn
        case neg => exact LK.ifF (decide_eq_false (by omega)) ⟨_, _, _, _, _, rfl, s, no fun z => absurd z c0⟩
        refine LK.ifT (decide_eq_true (by omega)) ?_
        refine ⟨_, rfl, _, rfl, _, rfl, _, _, rfl, rfl, p, _, ((i + 1 : Nat) : Int), .int (cn size rs (i + 1) : Int), rfl, by rfl, SqL.of epn, atI_nat (nI_get ec2), _, _, rfl, rfl, .inr ⟨by omega, by omega⟩, _, rfl, _, _, rfl, rfl, _, rfl, _, _, rfl, rfl, _, rfl, ?_⟩
        by_cases c1 : z ≤ (m.fr : Int) + lap * (cn size rs (i + 1) : Int)
        · refine LK.ifT (decide_eq_true (by omega)) ?_
          refine ⟨_, rfl, _, rfl, _, rfl, p, _, (i : Int), .int (cn size rs i : Int), rfl, rfl, SqL.of epn, atI_nat (nI_get ec1), _, _, rfl, rfl, .inr ⟨by omega, by omega⟩, _, rfl, ax, _, 1, _, rfl, rfl, same_tup s1n hax1, atI_nat (j := 1) rfl, _, _, rfl, rfl, _, rfl, _, _, rfl, rfl, ?_⟩
          have mm : m ∈ mkR (rwAt rs i) := List.mem_of_getElem? hm
          have e := sp.low_here (x := z) (mk_sp mm c0) (by rw [hlap]; show z ≤ (m.fr : Int) + _; omega) (fun q hq lt => by
            obtain ⟨m', hm', c', rfl⟩ := sp_mk hq
            obtain ⟨k', hk'⟩ := List.getElem?_of_mem hm'
            have lt : m'.fr < m.fr := lt
            have := inv k' m' (mk_before mo md1 hk' hm lt) hk' c'
            rw [hlap]
            show (m'.fr : Int) + _ < z
            omega)
          rw [hlap] at e
          have hk := k Hn (s1.trans s1n)
          rw [lE_, e] at hk
          have m1 := md1 m mm
          have : lap * (cn size rs i : Int) + ((rwAt rs i).off : Int) + (m.nr : Int) = ((spM (rwAt rs i).off m).lo : Int) + lap * (cn size rs i : Int) := by show _ = (((rwAt rs i).off + m.nr : Nat) : Int) + _; omega
          rw [← this] at hk
          exact ret _ _ hk
        · exact LK.ifF (decide_eq_false (by omega)) ⟨_, _, _, _, _, rfl, s, no fun _ => by omega⟩
      · obtain ⟨o6, o7, o8, o9, o10, rfl, s, inv⟩ := hI
        refine aft _ _ ⟨_, _, _, _, _, rfl, s2.trans s, fun m hm c => ?_⟩
        obtain ⟨k, hk⟩ := List.getElem?_of_mem hm
        have := (List.getElem?_eq_some_iff.mp hk).1
        exact inv k m (by omega) hk c
    rintro σ Hn ⟨o6, o7, o8, o9, o10, rfl, s, inv⟩
    dsimp only [tSeq]
    refine ⟨_, rfl, .ref ax, rwAt rs i, rfl, dp_same (s1.trans s) dv, few, fun D H2 zs nD s2 eD dz => ?_⟩
    have zl := dps_len dz
    rw [List.length_map] at zl
    have ml : (mkR (rwAt rs i)).length ≤ 1000 := by
      unfold mkR
      rw [mks_len]
      exact few
    refine ⟨D, rfl, ⟨_, SqL.of eD⟩, fun M nM => ?_⟩
    have ez : (zs.zip (mkR (rwAt rs i))).map (fun q => q.1) = zs := by rw [show (fun q : V × Mrk => q.1) = Prod.fst from rfl, List.map_fst_zip (by omega)]
    have ne : ((mkR (rwAt rs i)).filter fun m => decide (0 < m.mn)) ≠ [] := fun e => sp.ne (by rw [spR_mks, e]; rfl)
    have fo := mo.filter fun m => decide (0 < m.mn)
    refine lcf_list (ns := zs.zip (mkR (rwAt rs i))) (c := fun q : V × Mrk => q.1) (fun q => decide (0 < q.2.mn)) (fun q => V.int (q.2.nr : Int)) (by rw [ez]; exact SqL.of eD) nM (by rw [List.length_zip]; omega) (fun j q H5 yes no hq s5 y n => ⟨rfl, ?_⟩) (fun H5 s5 eM => ?_)
    · obtain ⟨q1, q2⟩ := List.getElem?_zip_eq_some.mp hq
      obtain ⟨u, e1, hu⟩ := mk_tup (dp_same s5 (dps_get dz q1 (by rw [List.getElem?_map, q2]; rfl)))
      rw [e1]
      refine ⟨_, rfl, u, _, 1, _, rfl, rfl, hu, atI_nat (j := 1) rfl, _, _, rfl, rfl, _, rfl, ?_⟩
      by_cases c : 0 < q.2.mn
      · exact LK.ifT (decide_eq_true (by omega)) ⟨_, rfl, u, _, 0, _, rfl, rfl, hu, atI_nat (j := 0) rfl, y (decide_eq_true c) _ (Same.refl _)⟩
      · exact LK.ifF (decide_eq_false (by omega)) (n (decide_eq_false c) _ (Same.refl _))
    have tm : ((zs.zip (mkR (rwAt rs i))).filter fun q => decide (0 < q.2.mn)).map (fun q => V.int (q.2.nr : Int)) = ((mkR (rwAt rs i)).filter fun m => decide (0 < m.mn)).map fun m => V.int (m.nr : Int) := zip_filt (by omega) (fun m : Mrk => decide (0 < m.mn)) (fun m : Mrk => V.int (m.nr : Int))
    rw [tm] at eM
    have mem : ∀ m ∈ (mkR (rwAt rs i)).filter fun m => decide (0 < m.mn), m ∈ mkR (rwAt rs i) ∧ 0 < m.mn := fun m h => ⟨(List.mem_filter.mp h).1, of_decide_eq_true (List.mem_filter.mp h).2⟩
    have all : ∀ q ∈ spR (rwAt rs i), ∃ m ∈ (mkR (rwAt rs i)).filter fun m => decide (0 < m.mn), q = spM (rwAt rs i).off m := fun q hq => by
      obtain ⟨m, hm, c, e⟩ := sp_mk hq
      exact ⟨m, List.mem_filter.mpr ⟨hm, decide_eq_true c⟩, e⟩
    generalize ((mkR (rwAt rs i)).filter fun m => decide (0 < m.mn)) = FL at eM ne fo mem all
    cases FL with
    | nil => exact absurd rfl ne
    | cons m0 rest =>
      obtain ⟨mm, c0⟩ := mem m0 List.mem_cons_self
      refine ⟨M, _, 0, .int (m0.nr : Int), rfl, rfl, SqL.of eM, atI_nat (j := 0) rfl, ?_⟩
      dsimp only [gName, List.set, tSeq]
      have s15 := (s.trans s2).trans s5
      refine ⟨_, rfl, _, _, rfl, rfl, _, rfl, _, rfl, p, _, (i : Int), .int (cn size rs i : Int), rfl, rfl, SqL.of (s15 _ _ ep), atI_nat (nI_get ec1), _, _, rfl, rfl, .inr ⟨by omega, by omega⟩, _, rfl, ax, _, 1, _, rfl, rfl, same_tup s15 hax1, atI_nat (j := 1) rfl, _, _, rfl, rfl, _, rfl, _, _, rfl, rfl, ?_⟩
      have e := sp.low_next (x := z) (mk_sp mm c0) (fun q hq => by
        obtain ⟨m', hm', rfl⟩ := all q hq
        rcases List.mem_cons.mp hm' with rfl | hm'
        · exact Nat.le_refl _
        · have := (List.pairwise_cons.mp fo).1 m' hm'
          show (rwAt rs i).off + m0.nr ≤ (rwAt rs i).off + m'.nr
          omega) (fun q hq => by
        obtain ⟨m', hm', rfl⟩ := all q hq
        obtain ⟨a1, a2⟩ := mem m' hm'
        have := inv m' a1 a2
        rw [hlap]
        exact this)
      rw [hlap] at e
      have hk := k _ (s1.trans s15)
      rw [lE_, e] at hk
      have : (lap + 1) * (cn size rs i : Int) + ((rwAt rs i).off : Int) + (m0.nr : Int) = ((spM (rwAt rs i).off m0).lo : Int) + (lap + 1) * (cn size rs i : Int) := by
        show _ = (((rwAt rs i).off + m0.nr : Nat) : Int) + _
        omega
      rw [← this] at hk
      exact hk
abbrev sHig : Stmt := top 43
theorem scHig : FnScope ["plan", "at", "mark", "line", "sums_here", "lap", "near", "many", "far", "made", "part"] ["plan", "at", "mark"] (defScope sHig) := ⟨rfl, rfl, rfl, by decide +kernel, rfl, by decide +kernel, by decide +kernel⟩
theorem ok_Hig {f : Addr} {fd : FuncData} (F : Fun K "_law_high" "_law_high" sHig f fd) (B : Bl mg)
    {f__law_sums : Addr} {d__law_sums : FuncData} (G__law_sums : FnOk P w K mg base CX0 1 f__law_sums d__law_sums ["plan"] (spSum K)) (g__law_sums : mg "_law_sums" = some (.ref f__law_sums)) (k__law_sums : PySem.W.keepIn K (.ref f__law_sums) = true) (b__law_sums : Binds K d__law_sums ["plan"] [])
    {f__law_marks : Addr} {d__law_marks : FuncData} (G__law_marks : FnOk P w K mg base CX0 1 f__law_marks d__law_marks ["line"] (spMks K)) (g__law_marks : mg "_law_marks" = some (.ref f__law_marks)) (k__law_marks : PySem.W.keepIn K (.ref f__law_marks) = true) (b__law_marks : Binds K d__law_marks ["line"] []) : FnOk P w K mg base CX0 2 f fd ["plan", "at", "mark"] (spLaE K rEnd) := by
  refine F.ok scHig (fun vs H Q E h => ?_) (fun cdv A outer s H vs Q E hr h => ?_)
  · obtain ⟨t, Ld, xs, i, z, size, rs, rfl, _⟩ := h
    rfl
  · obtain ⟨t, Ld, xs, i, z, size, rs, rfl, pl, ok, il, k⟩ := h
    refine ⟨_, pss_cons (ps_par (i := 3) (j := 4) rfl scHig.nd rfl rfl (by decide) rfl rfl (pa_cons (pe_ix ix_list (pe_ix (ixt (K := K)) (pv 0) pe_int (fun _ _ => rfl)) (pv 1) (fun _ _ => rfl)) (pa_cons (pe_call (E := E0) G__law_sums (hr.mono (by decide)) rfl g__law_sums k__law_sums b__law_sums .nil pass0 (pa_cons (pv 0) pa_nil)) pa_nil)) (by rfl))
      (pss_cons (ps_set (i := 5) scHig.nd rfl (Or.inl rfl) (pe_op op_fdivW (pv 2) (pe_ix ix_list (pv 4) (pe_op op_add (pv 1) pe_int) (fun _ _ => rfl))))
      (pss_cons (ps_for PassesOwn.never rfl (pi_list (pe_revL (pe_call (E := E0) G__law_marks (hr.mono (by decide)) rfl g__law_marks k__law_marks b__law_marks .nil pass0 (pa_cons (pv 3) pa_nil)))) (pg_tup rfl (pgs_cons (pg_name (i := 6) scHig.nd rfl (Or.inl rfl)) (pgs_cons (pg_name (i := 7) scHig.nd rfl (Or.inl rfl)) (pgs_cons (pg_name (i := 8) scHig.nd rfl (Or.inl rfl)) (pgs_cons (pg_name (i := 9) scHig.nd rfl (Or.inl rfl)) pgs_nil))))) (pss_one (ps_if (PW.pt (pw_and (pt_cmpR op_gt (pv 7) pe_int (nomark _)) (pw_and1 (pt_cmpR op_le (pe_op op_sub (pe_op op_add (pe_op op_add (pe_op op_mul (pv 5) (pe_ix ix_list (pv 4) (pe_op op_add (pv 1) pe_int) (fun _ _ => rfl))) (pv 8)) (pv 9)) pe_int) (pv 2) (nomark _))))) (pss_one (ps_ret (pe_op op_sub (pe_op op_add (pe_op op_add (pe_op op_add (pe_op op_mul (pv 5) (pe_ix ix_list (pv 4) (pv 1) (fun _ _ => rfl))) (pe_ix (ixt (K := K)) (pv 3) pe_int (fun _ _ => rfl))) (pv 6)) (pv 7)) pe_int))) pss_nil)))
      (pss_cons (ps_asg (pe_ix ix_list (pe_lc (own := [("part", 10)]) (g := gName 10) rfl scHig.nd (pi_list (pe_call (E := E0) G__law_marks (hr.mono (by decide)) rfl g__law_marks k__law_marks b__law_marks .nil pass0 (pa_cons (pv 3) pa_nil))) (blkOk_by (N := ["plan", "at", "mark", "line", "sums_here", "lap", "near", "many", "far", "made", "part"]) (sc := defScope sHig) (by decide +kernel)) (fun _ _ _ _ _ => pg_name (i := 10) scHig.nd rfl (Or.inl rfl)) (fun _ _ _ _ _ => pts_one (pt_cmpR op_gt (pe_ix (ixt (K := K)) (pv 10) pe_int (fun _ _ => rfl)) pe_int (nomark _))) (fun _ _ _ _ _ => pe_slice (MZ.sl_tupK (K := K)) (pv 10) po_none (po_some pe_int))) (pe_un un_neg pe_int) (fun _ _ => rfl)) (pg_tup rfl (pgs_cons (pg_name (i := 6) scHig.nd rfl (Or.inl rfl)) (pgs_cons (pg_name (i := 7) scHig.nd rfl (Or.inl rfl)) pgs_nil))))
      (pss_one (ps_ret (pe_op op_sub (pe_op op_add (pe_op op_add (pe_op op_add (pe_op op_mul (pe_op op_sub (pv 5) pe_int) (pe_ix ix_list (pv 4) (pv 1) (fun _ _ => rfl))) (pe_ix (ixt (K := K)) (pv 3) pe_int (fun _ _ => rfl))) (pv 6)) (pv 7)) pe_int)))))), ?_⟩
    have ty2 : sizeLine = 16777216 := sizeLine_eq
    obtain ⟨er, okr, dr, ec1, ec2⟩ := ok.row il
    have b1 := ok.cn1 i
    have b2 := ok.cn1 (i + 1)
    have sp := ok.sp il
    have rl := ok.rl
    have few := ok.few _ (List.mem_of_getElem? er)
    obtain ⟨mo, md1⟩ := okr.mrk
    have xl := dps_len pl.dL
    rw [List.length_map] at xl
    obtain ⟨v, hv⟩ : ∃ v, xs[i]? = some v := ⟨_, List.getElem?_eq_getElem (by omega)⟩
    have dv := dps_get pl.dL hv (by rw [List.getElem?_map, er]; rfl)
    obtain ⟨ax, bx, ws, rfl, hax, hw, dw⟩ := rw_tup dv
    refine ⟨_, rfl, t, _, 1, _, rfl, rfl, SqT.of pl.et, atI_nat (j := 1) rfl, _, rfl, Ld, _, (i : Int), _, rfl, rfl, SqL.of pl.eL, atI_nat hv, ?_⟩
    refine ⟨_, rfl, t, Ld, xs, size, rs, rfl, pl, ⟨rl.2, ok.few⟩, fun p H1 np s1 ep => ?_⟩
    refine ⟨_, _, rfl, ?_⟩
    dsimp only [gName, List.set, tSeq]
    refine ⟨_, rfl, _, rfl, _, rfl, _, _, rfl, rfl, p, _, ((i + 1 : Nat) : Int), .int (cn size rs (i + 1) : Int), rfl, by rfl, SqL.of ep, atI_nat (nI_get ec2), _, _, rfl, rfl, wide_div (b := 20) (by omega) (by omega) (by decide) (by decide), ?_⟩
    dsimp only [gName, List.set, tSeq]
    have lE_ : rEnd size rs i z = rE (spR (rwAt rs i)) (cn size rs i) (cn size rs (i + 1)) z := rfl
    generalize hlap : z / (cn size rs (i + 1) : Int) = lap
    have hax1 := same_tup s1 hax
    refine stR (fun σ Hn => ∃ (o6 o7 o8 o9 o10 : Option V), σ = [some (.ref t), some (.int (i : Int)), some (.int z), some (.ref ax), some (.ref p), some (.int lap), o6, o7, o8, o9, o10] ∧ Same H1 Hn ∧ ∀ m ∈ mkR (rwAt rs i), 0 < m.mn → z < (m.fr : Int) + (m.md : Int) - 1 + lap * (cn size rs (i + 1) : Int)) (fun D' ret aft => ?_) ?_
    · refine ⟨_, rfl, .ref ax, rwAt rs i, rfl, dp_same s1 dv, few, fun D0 H2 zs0 nD0 s20 eD0 dz0 => ?_⟩
      refine ⟨D0, _, rfl, SqL.of eD0, fun D nD => ?_⟩
      have tD := same_new (o := .lst zs0.reverse) nD
      have eD := upd_same (H := H2) (a := D) (o := .lst zs0.reverse)
      have s2 := s20.trans tD
      have dz := dps_same tD (dps_rev dz0)
      rw [← List.map_reverse] at dz
      generalize upd H2 D (.lst zs0.reverse) = H3 at eD s2 dz
      generalize zs0.reverse = zs at dz eD
      have zl := dps_len dz
      rw [List.length_map] at zl
      refine ⟨D, rfl, ⟨_, SqL.of eD⟩, ?_⟩
      refine for_list (K := K) (a := D) (xs := zs) (fun j σ Hn => ∃ (o6 o7 o8 o9 o10 : Option V), σ = [some (.ref t), some (.int (i : Int)), some (.int z), some (.ref ax), some (.ref p), some (.int lap), o6, o7, o8, o9, o10] ∧ Same H3 Hn ∧ ∀ (k : Nat) (m : Mrk), k < j → (mkR (rwAt rs i)).reverse[k]? = some m → 0 < m.mn → z < (m.fr : Int) + (m.md : Int) - 1 + lap * (cn size rs (i + 1) : Int))
        ⟨_, _, _, _, _, rfl, Same.refl _, fun k m hk => absurd hk (Nat.not_lt_zero _)⟩ (fun j σ Hn hj hI => by obtain ⟨_, _, _, _, _, _, s, _⟩ := hI; exact SqL.of (s _ _ eD)) (fun j x σ Hn hx hI => ?_) (fun σ Hn hI => ?_)
      · obtain ⟨o6, o7, o8, o9, o10, rfl, s, inv⟩ := hI
        have jl := (List.getElem?_eq_some_iff.mp hx).1
        obtain ⟨m, hm⟩ : ∃ m, (mkR (rwAt rs i)).reverse[j]? = some m := ⟨_, List.getElem?_eq_getElem (by omega)⟩
        obtain ⟨u, rfl, hu⟩ := mk_tup (dp_same s (dps_get dz hx (by rw [List.getElem?_map, hm]; rfl)))
        have s1n := s2.trans s
        have epn := s1n _ _ ep
        refine ⟨u, _, rfl, hu, rfl, ?_⟩
        refine ⟨_, _, rfl, _, _, rfl, _, _, rfl, _, _, rfl, rfl, ?_⟩
        dsimp only [gName, gCons, gNil, List.set, tSeq]
        have no : (0 < m.mn → z < (m.fr : Int) + (m.md : Int) - 1 + lap * (cn size rs (i + 1) : Int)) → ∀ (k : Nat) (m' : Mrk), k < j + 1 → (mkR (rwAt rs i)).reverse[k]? = some m' → 0 < m'.mn → z < (m'.fr : Int) + (m'.md : Int) - 1 + lap * (cn size rs (i + 1) : Int) := fun h k m' hk hm' => by
          rcases Nat.lt_or_ge k j with c | c
          · exact inv k m' c hm'
          · obtain rfl : k = j := by omega
            obtain rfl : m' = m := Option.some.inj (hm'.symm.trans hm)
            exact h
        refine ⟨_, rfl, _, _, rfl, rfl, _, rfl, ?_⟩
        by_cases c0 : 0 < m.mn
        case neg => exact LK.ifF (decide_eq_false (by omega)) ⟨_, _, _, _, _, rfl, s, no fun z => absurd z c0⟩
        refine LK.ifT (decide_eq_true (by omega)) ?_
        refine ⟨_, rfl, _, rfl, _, rfl, _, _, rfl, rfl, p, _, ((i + 1 : Nat) : Int), .int (cn size rs (i + 1) : Int), rfl, by rfl, SqL.of epn, atI_nat (nI_get ec2), _, _, rfl, rfl, .inr ⟨by omega, by omega⟩, _, rfl, _, _, rfl, rfl, _, rfl, _, _, rfl, rfl, _, _, rfl, rfl, _, rfl, _, _, rfl, rfl, _, rfl, ?_⟩
        by_cases c1 : (m.fr : Int) + (m.md : Int) - 1 + lap * (cn size rs (i + 1) : Int) ≤ z
        · refine LK.ifT (decide_eq_true (by omega)) ?_
          refine ⟨_, rfl, _, rfl, _, rfl, p, _, (i : Int), .int (cn size rs i : Int), rfl, rfl, SqL.of epn, atI_nat (nI_get ec1), _, _, rfl, rfl, .inr ⟨by omega, by omega⟩, _, rfl, ax, _, 1, _, rfl, rfl, same_tup s1n hax1, atI_nat (j := 1) rfl, _, _, rfl, rfl, _, rfl, _, _, rfl, rfl, _, rfl, _, _, rfl, rfl, _, _, rfl, rfl, ?_⟩
          have mm : m ∈ mkR (rwAt rs i) := List.mem_reverse.mp (List.mem_of_getElem? hm)
          have e := sp.high_here (x := z) (mk_sp mm c0) (by rw [hlap]; have := md1 m mm; show (((m.fr + m.md - 1 : Nat) : Int) + _ ≤ z); omega) (fun q hq lt => by
            obtain ⟨m', hm', c', rfl⟩ := sp_mk hq
            obtain ⟨k', hk'⟩ := List.getElem?_of_mem (List.mem_reverse.mpr hm')
            have lt : m.fr + m.md - 1 < m'.fr + m'.md - 1 := lt
            have := inv k' m' (rev_before mo md1 hm' mm hk' hm lt) hk' c'
            rw [hlap]
            have := md1 m' hm'
            show z < ((m'.fr + m'.md - 1 : Nat) : Int) + _
            omega)
          rw [hlap] at e
          have hk := k Hn (s1.trans s1n)
          rw [lE_, e] at hk
          have m1 := md1 m mm
          have : lap * (cn size rs i : Int) + ((rwAt rs i).off : Int) + (m.nr : Int) + (m.mn : Int) - 1 = ((spM (rwAt rs i).off m).hi : Int) + lap * (cn size rs i : Int) := by show _ = (((rwAt rs i).off + m.nr + m.mn - 1 : Nat) : Int) + _; omega
          rw [← this] at hk
          exact ret _ _ hk
        · exact LK.ifF (decide_eq_false (by omega)) ⟨_, _, _, _, _, rfl, s, no fun _ => by omega⟩
      · obtain ⟨o6, o7, o8, o9, o10, rfl, s, inv⟩ := hI
        refine aft _ _ ⟨_, _, _, _, _, rfl, s2.trans s, fun m hm c => ?_⟩
        obtain ⟨k, hk⟩ := List.getElem?_of_mem (List.mem_reverse.mpr hm)
        have := (List.getElem?_eq_some_iff.mp hk).1
        exact inv k m (by omega) hk c
    rintro σ Hn ⟨o6, o7, o8, o9, o10, rfl, s, inv⟩
    dsimp only [tSeq]
    refine ⟨_, rfl, .ref ax, rwAt rs i, rfl, dp_same (s1.trans s) dv, few, fun D H2 zs nD s2 eD dz => ?_⟩
    have zl := dps_len dz
    rw [List.length_map] at zl
    have ml : (mkR (rwAt rs i)).length ≤ 1000 := by
      unfold mkR
      rw [mks_len]
      exact few
    refine ⟨D, rfl, ⟨_, SqL.of eD⟩, fun M nM => ?_⟩
    have ez : (zs.zip (mkR (rwAt rs i))).map (fun q => q.1) = zs := by rw [show (fun q : V × Mrk => q.1) = Prod.fst from rfl, List.map_fst_zip (by omega)]
    have ne : ((mkR (rwAt rs i)).filter fun m => decide (0 < m.mn)) ≠ [] := fun e => sp.ne (by rw [spR_mks, e]; rfl)
    have fo := mo.filter fun m => decide (0 < m.mn)
    refine lc_list (K := K) (a := D) (xs := zs) (fun j H' => ∃ ys : List V, H' M = some (.lst ys) ∧ DpAll K H' ys ((((mkR (rwAt rs i)).take j).filter fun m => decide (0 < m.mn)).map fun m => PyData.tuple [.int (m.nr : Int), .int (m.mn : Int)]) ∧ Same H2 H' ∧ ys.length ≤ j) ⟨[], upd_same, .nil, same_new nM, Nat.le_refl _⟩ (fun j H' hj hg => by obtain ⟨_, _, _, s', _⟩ := hg; exact SqL.of (s' _ _ eD)) (fun j y H' hy hg => ⟨rfl, ?_⟩) (fun H' hg => ?_)
    · obtain ⟨ys, eM, dy, sM, yl⟩ := hg
      have jl := (List.getElem?_eq_some_iff.mp hy).1
      obtain ⟨m, hm⟩ : ∃ m, (mkR (rwAt rs i))[j]? = some m := ⟨_, List.getElem?_eq_getElem (by omega)⟩
      obtain ⟨u, rfl, hu⟩ := mk_tup (dp_same sM (dps_get dz hy (by rw [List.getElem?_map, hm]; rfl)))
      refine ⟨_, rfl, u, _, 1, _, rfl, rfl, hu, atI_nat (j := 1) rfl, _, _, rfl, rfl, _, rfl, ?_⟩
      have tk : (mkR (rwAt rs i)).take (j + 1) = (mkR (rwAt rs i)).take j ++ [m] := by
        rw [List.take_add_one, hm]
        rfl
      rw [tk, List.filter_append]
      by_cases c : 0 < m.mn
      · rw [List.filter_cons_of_pos (by exact decide_eq_true c), List.filter_nil]
        refine LK.ifT (decide_eq_true (by omega)) ⟨_, rfl, _, rfl, u, _, rfl, hu, ?_, fun q nq => ?_⟩
        · show ¬ (_ ∧ HT.sIx 4 4 (some 2) = 4)
          exact fun z => absurd z.2 (by decide)
        have tq := same_new (o := .tup [.int (m.nr : Int), .int (m.mn : Int)]) nq
        refine ⟨ys, tq _ _ eM, by omega, ys ++ [.ref q], upd_same, ?_, same_newU (sM.trans tq) nM, by rw [List.length_append, List.length_singleton]; omega⟩
        rw [List.map_append]
        have tlo : Tl H' (upd (upd H' q (.tup [.int (m.nr : Int), .int (m.mn : Int)])) M (.lst (ys ++ [.ref q]))) := (Tl.same tq).trans (Tl.own (tq _ _ eM))
        refine dps_app (dps_tl tlo (noLs_iff.mpr fun d hd => by obtain ⟨m', _, rfl⟩ := List.mem_map.mp hd; rfl) dy) (.cons (.tup (SqT.of ?_) (.cons (.int _) (.cons (.int _) .nil))) .nil)
        rw [upd_ne (Ne.symm (ne_none eM nq))]
        exact upd_same
      · rw [List.filter_cons_of_neg (by simpa using c), List.filter_nil, List.append_nil]
        exact LK.ifF (decide_eq_false (by omega)) ⟨ys, eM, dy, sM, by omega⟩
    obtain ⟨ys, eM, dy, sM, _⟩ := hg
    rw [List.take_of_length_le (by omega)] at dy
    have mem : ∀ m ∈ (mkR (rwAt rs i)).filter fun m => decide (0 < m.mn), m ∈ mkR (rwAt rs i) ∧ 0 < m.mn := fun m h => ⟨(List.mem_filter.mp h).1, of_decide_eq_true (List.mem_filter.mp h).2⟩
    have all : ∀ q ∈ spR (rwAt rs i), ∃ m ∈ (mkR (rwAt rs i)).filter fun m => decide (0 < m.mn), q = spM (rwAt rs i).off m := fun q hq => by
      obtain ⟨m, hm, c, e⟩ := sp_mk hq
      exact ⟨m, List.mem_filter.mpr ⟨hm, decide_eq_true c⟩, e⟩
    generalize ((mkR (rwAt rs i)).filter fun m => decide (0 < m.mn)) = FL at dy ne fo mem all
    obtain ⟨FL, m0, rfl⟩ : ∃ a b, FL = a ++ [b] := ⟨_, _, (List.dropLast_concat_getLast ne).symm⟩
    obtain ⟨mm, c0⟩ := mem m0 (by simp)
    rw [List.map_append] at dy
    obtain ⟨ys, y0, rfl, dl⟩ := dps_snoc dy
    obtain ⟨u, rfl, hu⟩ : ∃ u, y0 = .ref u ∧ SqT K H' u [.int (m0.nr : Int), .int (m0.mn : Int)] := by
      cases dl with
      | tup q r =>
        obtain rfl := ints_back (ns := [(m0.nr : Int), (m0.mn : Int)]) r
        exact ⟨_, rfl, q⟩
    refine ⟨1, rfl, M, _, -1, _, rfl, rfl, SqL.of eM, atI_last _ _, u, _, rfl, hu, rfl, ?_⟩
    refine ⟨_, _, rfl, _, _, rfl, rfl, ?_⟩
    dsimp only [gName, gCons, gNil, List.set, tSeq]
    have s15 := (s.trans s2).trans sM
    refine ⟨_, rfl, _, _, rfl, rfl, _, rfl, _, rfl, p, _, (i : Int), .int (cn size rs i : Int), rfl, rfl, SqL.of (s15 _ _ ep), atI_nat (nI_get ec1), _, _, rfl, rfl, .inr ⟨by omega, by omega⟩, _, rfl, ax, _, 1, _, rfl, rfl, same_tup s15 hax1, atI_nat (j := 1) rfl, _, _, rfl, rfl, _, rfl, _, _, rfl, rfl, _, rfl, _, _, rfl, rfl, _, _, rfl, rfl, ?_⟩
    have e := sp.high_next (x := z) (mk_sp mm c0) (fun q hq => by
      obtain ⟨m', hm', rfl⟩ := all q hq
      obtain ⟨a1, a2⟩ := mem m' hm'
      rcases List.mem_append.mp hm' with hm' | hm'
      · have := (List.pairwise_append.mp fo).2.2 m' hm' m0 List.mem_cons_self
        show (rwAt rs i).off + m'.nr + m'.mn - 1 ≤ (rwAt rs i).off + m0.nr + m0.mn - 1
        omega
      · rw [List.mem_singleton.mp hm']
        exact Nat.le_refl _) (fun q hq => by
      obtain ⟨m', hm', rfl⟩ := all q hq
      obtain ⟨a1, a2⟩ := mem m' hm'
      have := inv m' a1 a2
      have := md1 m' a1
      rw [hlap]
      show z < ((m'.fr + m'.md - 1 : Nat) : Int) + _
      omega)
    rw [hlap] at e
    have hk := k _ (s1.trans s15)
    rw [lE_, e] at hk
    have : (lap - 1) * (cn size rs i : Int) + ((rwAt rs i).off : Int) + (m0.nr : Int) + (m0.mn : Int) - 1 = ((spM (rwAt rs i).off m0).hi : Int) + (lap - 1) * (cn size rs i : Int) := by
      show _ = (((rwAt rs i).off + m0.nr + m0.mn - 1 : Nat) : Int) + _
      omega
    rw [← this] at hk
    exact hk
end
end S8
/-! _law_dip -/
namespace S8
open PySem PySem.Spec PyProof.Rows L2 LK MXi MY MZ
theorem fold_max_le {l : List Mrk} {c : Nat} (h : ∀ m ∈ l, m.nr + m.mn ≤ c) : l.foldl (fun a m => max a (m.nr + m.mn)) 0 ≤ c := by
  have gen : ∀ (l : List Mrk) (a : Nat), a ≤ c → (∀ m ∈ l, m.nr + m.mn ≤ c) → l.foldl (fun a m => max a (m.nr + m.mn)) a ≤ c := by
    intro l
    induction l with
    | nil => exact fun a h _ => h
    | cons x r ih => exact fun a h1 h2 => ih _ (Nat.max_le.mpr ⟨h1, h2 x List.mem_cons_self⟩) fun m hm => h2 m (List.mem_cons_of_mem _ hm)
  exact gen l 0 (Nat.zero_le _) h
def spDip (K : PySem.W.Frag) : Sp := fun vs H Q _ => ∃ (t Ld : Addr) (xs : List V) (i : Nat) (we ea : Int) (size : Nat) (rs : List Rw), vs = [.ref t, .int i, .int we, .int ea] ∧ Plan K H t Ld xs size rs ∧ OkCh size rs ∧ i < rs.length ∧ ea ≤ we + 1000 ∧ ∀ (v : V) (H' : Hp), Same H H' → Dp K H' v (endsD (lEnd size rs i we) (rEnd size rs i ea)) → Q v H'
section
variable {P : Program} {w : World} {K : PySem.W.Frag} {mg : Str → Option Value} {base : Heap}
abbrev sDip : Stmt := top 49
theorem scDip : FnScope ["plan", "at", "west", "east", "line", "sums_here", "found", "ahead", "behind", "lap", "near", "many", "far", "made", "first", "k"] ["plan", "at", "west", "east"] (defScope sDip) := ⟨rfl, rfl, rfl, by decide +kernel, rfl, by decide +kernel, by decide +kernel⟩
theorem ok_Dip {f : Addr} {fd : FuncData} (F : Fun K "_law_dip" "_law_dip" sDip f fd) (B : Bl mg)
    {f__law_sums : Addr} {d__law_sums : FuncData} (G__law_sums : FnOk P w K mg base CX0 1 f__law_sums d__law_sums ["plan"] (spSum K)) (g__law_sums : mg "_law_sums" = some (.ref f__law_sums)) (k__law_sums : PySem.W.keepIn K (.ref f__law_sums) = true) (b__law_sums : Binds K d__law_sums ["plan"] [])
    {f__law_marks : Addr} {d__law_marks : FuncData} (G__law_marks : FnOk P w K mg base CX0 1 f__law_marks d__law_marks ["line"] (spMks K)) (g__law_marks : mg "_law_marks" = some (.ref f__law_marks)) (k__law_marks : PySem.W.keepIn K (.ref f__law_marks) = true) (b__law_marks : Binds K d__law_marks ["line"] []) : FnOk P w K mg base CX0 2 f fd ["plan", "at", "west", "east"] (spDip K) := by
  refine F.ok scDip (fun vs H Q E h => ?_) (fun cdv A outer s H vs Q E hr h => ?_)
  · obtain ⟨t, Ld, xs, i, we, ea, size, rs, rfl, _⟩ := h
    rfl
  · obtain ⟨t, Ld, xs, i, we, ea, size, rs, rfl, pl, ok, il, wid, k⟩ := h
    refine ⟨_, pss_cons (ps_asg (pe_tup (pa_cons (pe_ix ix_list (pe_ix (ixt (K := K)) (pv 0) pe_int (fun _ _ => rfl)) (pv 1) (fun _ _ => rfl)) (pa_cons (pe_call (E := E0) G__law_sums (hr.mono (by decide)) rfl g__law_sums k__law_sums b__law_sums .nil pass0 (pa_cons (pv 0) pa_nil)) (pa_cons (pe_lst pa_nil) pa_nil)))) (pg_tup rfl (pgs_cons (pg_name (i := 4) scDip.nd rfl (Or.inr rfl)) (pgs_cons (pg_name (i := 5) scDip.nd rfl (Or.inl rfl)) (pgs_cons (pg_name (i := 6) scDip.nd rfl (Or.inl rfl)) pgs_nil)))))
      (pss_cons (ps_asg (pe_tup (pa_cons (pe_ix ix_list (pv 5) (pv 1) (fun _ _ => rfl)) (pa_cons (pe_ix ix_list (pv 5) (pe_op op_add (pv 1) pe_int) (fun _ _ => rfl)) pa_nil))) (pg_tup rfl (pgs_cons (pg_name (i := 7) scDip.nd rfl (Or.inr rfl)) (pgs_cons (pg_name (i := 8) scDip.nd rfl (Or.inl rfl)) pgs_nil))))
      (pss_cons (ps_for PassesOwn.never rfl (pi_range2A (by rfl) (B "range" (by decide)) (pa_cons (pe_op op_sub (pe_op op_fdivW (pv 2) (pv 8)) pe_int) (pa_cons (pe_op op_add (pe_op op_fdivW (pv 3) (pv 8)) pe_int) pa_nil))) (pg_name (i := 9) scDip.nd rfl (Or.inr rfl)) (pss_one (ps_for PassesOwn.never rfl (pi_list (pe_call (E := E0) G__law_marks (hr.mono (by decide)) rfl g__law_marks k__law_marks b__law_marks .nil pass0 (pa_cons (pv 4) pa_nil))) (pg_tup rfl (pgs_cons (pg_name (i := 10) scDip.nd rfl (Or.inr rfl)) (pgs_cons (pg_name (i := 11) scDip.nd rfl (Or.inl rfl)) (pgs_cons (pg_name (i := 12) scDip.nd rfl (Or.inl rfl)) (pgs_cons (pg_name (i := 13) scDip.nd rfl (Or.inl rfl)) pgs_nil))))) (pss_cons (ps_set (i := 14) scDip.nd rfl (Or.inl rfl) (pe_op op_add (pe_op op_mul (pv 9) (pv 8)) (pv 12)))
      (pss_one (ps_if (PW.pt (pw_and (pt_cmpR op_gt (pv 11) pe_int (nomark _)) (pw_and (pt_cmpR op_le (pv 2) (pv 14) (nomark _)) (pw_and1 (pt_cmpR op_le (pe_op op_sub (pe_op op_add (pv 14) (pv 13)) pe_int) (pv 3) (nomark _)))))) (pss_one (ps_set (i := 6) scDip.nd rfl (Or.inl rfl) (pe_op op_cat (pv 6) (pe_lc (own := [("k", 15)]) (g := gName 15) (tt := tYes) rfl scDip.nd (pi_range1 (by rfl) (B "range" (by decide)) (pa_cons (pv 11) pa_nil)) (blkOk_by (N := ["plan", "at", "west", "east", "line", "sums_here", "found", "ahead", "behind", "lap", "near", "many", "far", "made", "first", "k"]) (sc := defScope sDip) (by decide +kernel)) (fun _ _ _ _ _ => pg_name (i := 15) scDip.nd rfl (Or.inl rfl)) (fun _ _ _ _ _ => pts_nil) (fun _ _ _ _ _ => pe_op op_add (pe_op op_add (pe_op op_add (pe_op op_mul (pv 9) (pv 7)) (pe_ix (ixt (K := K)) (pv 4) pe_int (fun _ _ => rfl))) (pv 10)) (pv 15)))))) pss_nil))))))
      (pss_one (ps_ret (pe_ifExp (pt_cmpR (op_neD hr.units) (pv 6) (pe_lst pa_nil) (nomark _)) (pe_tup (pa_cons (pe_callB (cr_min rfl) (by rfl) (B "min" (by decide)) (by decide +kernel) (pa_cons (pv 6) pa_nil)) (pa_cons (pe_callB (cr_max rfl) (by rfl) (B "max" (by decide)) (by decide +kernel) (pa_cons (pv 6) pa_nil)) pa_nil))) pe_non))))), ?_⟩
    have ty2 : sizeLine = 16777216 := sizeLine_eq
    obtain ⟨er, okr, dr, ec1, ec2⟩ := ok.row il
    have b1 := ok.cn1 i
    have b2 := ok.cn1 (i + 1)
    have sp := ok.sp il
    have rl := ok.rl
    have few := ok.few _ (List.mem_of_getElem? er)
    obtain ⟨mo, md1⟩ := okr.mrk
    have mtk : ∀ m ∈ mkR (rwAt rs i), m.nr + m.mn ≤ cn size rs i := fun m hm => by
      have := ((mks_ord (rwAt rs i).sts 0 0 fun s m => (okr.sts.ok s m).2.1).2 m hm).2.2.2.2
      rw [okr.sts.tk] at this
      omega
    have xl := dps_len pl.dL
    rw [List.length_map] at xl
    obtain ⟨v, hv⟩ : ∃ v, xs[i]? = some v := ⟨_, List.getElem?_eq_getElem (by omega)⟩
    have dv := dps_get pl.dL hv (by rw [List.getElem?_map, er]; rfl)
    obtain ⟨ax, bx, ws, rfl, hax, hw, dw⟩ := rw_tup dv
    refine ⟨_, rfl, t, _, 1, _, rfl, rfl, SqT.of pl.et, atI_nat (j := 1) rfl, _, rfl, Ld, _, (i : Int), _, rfl, rfl, SqL.of pl.eL, atI_nat hv, ?_⟩
    refine ⟨_, rfl, t, Ld, xs, size, rs, rfl, pl, ⟨rl.2, ok.few⟩, fun p H1 np s1 ep => ?_⟩
    refine ⟨by show 0 ≤ sizeLine; decide, fun F0 nF => ⟨by show 3 ≤ sizeLine; decide, fun u nu => ?_⟩⟩
    have nF0 := gone s1 nF
    have tF := same_new (o := .lst []) nF
    have eF := upd_same (H := H1) (a := F0) (o := .lst [])
    change upd H1 F0 (.lst []) u = none at nu
    have tu := tF.trans (same_new (o := .tup [.ref ax, .ref p, .ref F0]) nu)
    have eu := upd_same (H := upd H1 F0 (.lst [])) (a := u) (o := .tup [.ref ax, .ref p, .ref F0])
    have eF2 := same_new (o := .tup [.ref ax, .ref p, .ref F0]) nu _ _ eF
    refine ⟨u, _, rfl, SqT.of eu, rfl, ?_⟩
    refine ⟨_, _, rfl, _, _, rfl, _, _, rfl, rfl, ?_⟩
    generalize upd (upd H1 F0 (.lst [])) u (.tup [.ref ax, .ref p, .ref F0]) = H2 at tu eF2
    have s2 := s1.trans tu
    have ep2 := tu _ _ ep
    have hax2 := same_tup s2 hax
    dsimp only [gName, gCons, gNil, List.set, tSeq]
    refine ⟨_, rfl, _, rfl, p, _, (i : Int), .int (cn size rs i : Int), rfl, rfl, SqL.of ep2, atI_nat (nI_get ec1), ?_⟩
    refine ⟨_, rfl, _, rfl, _, _, rfl, rfl, p, _, ((i + 1 : Nat) : Int), .int (cn size rs (i + 1) : Int), rfl, by rfl, SqL.of ep2, atI_nat (nI_get ec2), by show 2 ≤ sizeLine; decide, fun u2 nu2 => ?_⟩
    refine ⟨u2, _, rfl, SqT.of upd_same, rfl, ?_⟩
    refine ⟨_, _, rfl, _, _, rfl, rfl, ?_⟩
    have t3 := same_new (o := .tup [.int (cn size rs i : Int), .int (cn size rs (i + 1) : Int)]) nu2
    have eF3 := t3 _ _ eF2
    have s3 := s2.trans t3
    have ep3 := t3 _ _ ep2
    have hax3 := same_tup t3 hax2
    have F00 : F0 ≠ p := (ne_none ep nF).symm
    generalize upd H2 u2 (.tup [.int (cn size rs i : Int), .int (cn size rs (i + 1) : Int)]) = H3 at t3 eF3 s3 ep3 hax3
    clear eF2 ep2 hax2 tu tF eF eu nu nu2
    dsimp only [gName, gCons, gNil, List.set, tSeq]
    have b0 : (0 : Int) < (cn size rs (i + 1) : Int) := by omega
    -- the laps
    refine stJ (fun σ Hn => ∃ (Fd : Addr) (zs : List Int) (o9 o10 o11 o12 o13 o14 o15 : Option V), σ = [some (.ref t), some (.int (i : Int)), some (.int we), some (.int ea), some (.ref ax), some (.ref p), some (.ref Fd), some (.int (cn size rs i : Int)), some (.int (cn size rs (i + 1) : Int)), o9, o10, o11, o12, o13, o14, o15] ∧ Same H3 Hn ∧ Hn Fd = some (.lst (zs.map V.int)) ∧ zs.length ≤ 2000000 ∧ ∀ w, w ∈ zs ↔ ∃ q ∈ spR (rwAt rs i), ∃ k : Int, we ≤ (q.nw : Int) + k * (cn size rs (i + 1) : Int) ∧ (q.ls : Int) + k * (cn size rs (i + 1) : Int) ≤ ea ∧ (q.lo : Int) + k * (cn size rs i : Int) ≤ w ∧ w ≤ (q.hi : Int) + k * (cn size rs i : Int)) (fun D' aft => ?_) ?_
    · refine ⟨_, rfl, _, rfl, _, _, rfl, rfl, wide_div (b := 20) (by omega) (by omega) (by decide) (by decide), _, _, rfl, rfl, _, rfl, _, rfl, _, _, rfl, rfl, wide_div (b := 20) (by omega) (by omega) (by decide) (by decide), _, _, rfl, rfl, _, _, rfl, ?_⟩
      dsimp only
      obtain ⟨lo, hlo⟩ : ∃ lo : Int, we / (cn size rs (i + 1) : Int) - 1 = lo := ⟨_, rfl⟩
      obtain ⟨n, hn⟩ : ∃ n : Nat, (ea / (cn size rs (i + 1) : Int) + 2 - lo).toNat = n := ⟨_, rfl⟩
      rw [hlo, hn]
      obtain ⟨w1, w2⟩ := (div_iff b0).mp (rfl : we / (cn size rs (i + 1) : Int) = _)
      obtain ⟨e1, e2⟩ := (div_iff b0).mp (rfl : ea / (cn size rs (i + 1) : Int) = _)
      have n1 : n ≤ 1010 := by
        have : ea / (cn size rs (i + 1) : Int) ≤ we / (cn size rs (i + 1) : Int) + 1001 := by
          refine Classical.byContradiction fun z => ?_
          have := mul_mono (a := (cn size rs (i + 1) : Int)) (by omega) (show we / (cn size rs (i + 1) : Int) + 1 + 1001 ≤ ea / (cn size rs (i + 1) : Int) by omega)
          rw [Int.add_mul (we / (cn size rs (i + 1) : Int) + 1)] at this
          omega
        omega
      have inn : ∀ (q : Spn) (k : Int), q ∈ spR (rwAt rs i) → we ≤ (q.nw : Int) + k * (cn size rs (i + 1) : Int) → (q.ls : Int) + k * (cn size rs (i + 1) : Int) ≤ ea → lo ≤ k ∧ k < lo + n := fun q k hq h1 h2 => by
        have qb := sp.ok q hq
        have k1 : we / (cn size rs (i + 1) : Int) ≤ k := by
          refine Classical.byContradiction fun z => ?_
          have := mul_mono (a := (cn size rs (i + 1) : Int)) (by omega) (show k + 1 ≤ we / (cn size rs (i + 1) : Int) by omega)
          rw [Int.add_mul, Int.one_mul] at this
          omega
        have k2 : k ≤ ea / (cn size rs (i + 1) : Int) := by
          refine Classical.byContradiction fun z => ?_
          have := mul_mono (a := (cn size rs (i + 1) : Int)) (by omega) (show ea / (cn size rs (i + 1) : Int) + 1 ≤ k by omega)
          omega
        omega
      refine for_range (lo := lo) (n := n) (fun j σ Hn => ∃ (Fd : Addr) (zs : List Int) (o9 o10 o11 o12 o13 o14 o15 : Option V), σ = [some (.ref t), some (.int (i : Int)), some (.int we), some (.int ea), some (.ref ax), some (.ref p), some (.ref Fd), some (.int (cn size rs i : Int)), some (.int (cn size rs (i + 1) : Int)), o9, o10, o11, o12, o13, o14, o15] ∧ Same H3 Hn ∧ Hn Fd = some (.lst (zs.map V.int)) ∧ zs.length ≤ j * 1000 ∧ ∀ w, w ∈ zs ↔ ∃ q ∈ spR (rwAt rs i), ∃ k : Int, lo ≤ k ∧ k < lo + j ∧ we ≤ (q.nw : Int) + k * (cn size rs (i + 1) : Int) ∧ (q.ls : Int) + k * (cn size rs (i + 1) : Int) ≤ ea ∧ (q.lo : Int) + k * (cn size rs i : Int) ≤ w ∧ w ≤ (q.hi : Int) + k * (cn size rs i : Int))
        ⟨F0, [], _, _, _, _, _, _, _, rfl, Same.refl _, eF3, Nat.zero_le _, fun w => ⟨fun z => absurd z List.not_mem_nil, fun ⟨q, _, k, h1, h2, _⟩ => by omega⟩⟩ (fun j σ Hn hj hI => ?_) (fun σ Hn hI => ?_)
      · obtain ⟨Fd, zs, o9, o10, o11, o12, o13, o14, o15, rfl, sn, eF, zl, hz⟩ := hI
        dsimp only [gName, List.set, tSeq]
        obtain ⟨lap, hlap⟩ : ∃ lap : Int, lo + (j : Int) = lap := ⟨_, rfl⟩
        rw [hlap]
        refine ⟨_, rfl, .ref ax, rwAt rs i, rfl, dp_same (s3.trans sn) dv, few, fun D H4 zz nD s4 eD dz => ?_⟩
        have zzl := dps_len dz
        rw [List.length_map] at zzl
        have ml : (mkR (rwAt rs i)).length ≤ 1000 := by
          unfold mkR
          rw [mks_len]
          exact few
        refine ⟨D, rfl, ⟨_, SqL.of eD⟩, ?_⟩
        refine for_list (K := K) (a := D) (xs := zz) (fun i' σ Hm => ∃ (Fd : Addr) (zs' : List Int) (o10 o11 o12 o13 o14 o15 : Option V), σ = [some (.ref t), some (.int (i : Int)), some (.int we), some (.int ea), some (.ref ax), some (.ref p), some (.ref Fd), some (.int (cn size rs i : Int)), some (.int (cn size rs (i + 1) : Int)), some (.int lap), o10, o11, o12, o13, o14, o15] ∧ Same H3 Hm ∧ Same H4 Hm ∧ Hm Fd = some (.lst (zs'.map V.int)) ∧ zs'.length ≤ j * 1000 + ((mkR (rwAt rs i)).take i').foldl (fun a m => max a (m.nr + m.mn)) 0 ∧ ∀ w, w ∈ zs' ↔ (w ∈ zs ∨ ∃ m ∈ (mkR (rwAt rs i)).take i', 0 < m.mn ∧ we ≤ (m.fr : Int) + lap * (cn size rs (i + 1) : Int) ∧ (m.fr : Int) + (m.md : Int) - 1 + lap * (cn size rs (i + 1) : Int) ≤ ea ∧ ((rwAt rs i).off : Int) + (m.nr : Int) + lap * (cn size rs i : Int) ≤ w ∧ w ≤ ((rwAt rs i).off : Int) + (m.nr : Int) + (m.mn : Int) - 1 + lap * (cn size rs i : Int)))
          ⟨Fd, zs, _, _, _, _, _, _, rfl, sn.trans s4, Same.refl _, s4 _ _ eF, by omega, fun w => ⟨.inl, fun z => z.elim id fun ⟨m, h, _⟩ => by rw [List.take_zero] at h; exact absurd h List.not_mem_nil⟩⟩ (fun i' σ Hm hi' hI => by obtain ⟨_, _, _, _, _, _, _, _, _, _, s, _⟩ := hI; exact SqL.of (s _ _ eD)) (fun i' x σ Hm hx hI => ?_) (fun σ Hm hI => ?_)
        · obtain ⟨Fd, zs', o10, o11, o12, o13, o14, oz, rfl, sm3, sm4, eF', zl', hz'⟩ := hI
          have jl := (List.getElem?_eq_some_iff.mp hx).1
          obtain ⟨m, hm⟩ : ∃ m, (mkR (rwAt rs i))[i']? = some m := ⟨_, List.getElem?_eq_getElem (by omega)⟩
          have mm := List.mem_of_getElem? hm
          have m1 := md1 m mm
          have m2 := mtk m mm
          obtain ⟨y, rfl, hy⟩ := mk_tup (dp_same sm4 (dps_get dz hx (by rw [List.getElem?_map, hm]; rfl)))
          have tk : (mkR (rwAt rs i)).take (i' + 1) = (mkR (rwAt rs i)).take i' ++ [m] := by
            rw [List.take_add_one, hm]
            rfl
          have before : ((mkR (rwAt rs i)).take i').foldl (fun a m => max a (m.nr + m.mn)) 0 ≤ m.nr := fold_max_le (fun q hq => by
            obtain ⟨k', hk'⟩ := List.getElem?_of_mem hq
            have kl : k' < i' := by
              have := (List.getElem?_eq_some_iff.mp hk').1
              rw [List.length_take] at this
              omega
            rw [List.getElem?_take_of_lt kl] at hk'
            obtain ⟨_, e1⟩ := List.getElem?_eq_some_iff.mp hk'
            obtain ⟨_, e2⟩ := List.getElem?_eq_some_iff.mp hm
            have := List.pairwise_iff_getElem.mp mo k' i' (by omega) (by omega) kl
            rw [e1, e2] at this
            exact this.2)
          have fold1 : ((mkR (rwAt rs i)).take (i' + 1)).foldl (fun a m => max a (m.nr + m.mn)) 0 = m.nr + m.mn := by
            rw [tk, List.foldl_append]
            show max _ _ = _
            omega
          have mem1 : ∀ {P : Mrk → Prop}, (∃ m' ∈ (mkR (rwAt rs i)).take (i' + 1), P m') ↔ (∃ m' ∈ (mkR (rwAt rs i)).take i', P m') ∨ P m := fun {P} => by
            rw [tk]
            constructor
            · rintro ⟨m', h, hp⟩
              rcases List.mem_append.mp h with h | h
              · exact .inl ⟨m', h, hp⟩
              · rw [List.mem_singleton.mp h] at hp
                exact .inr hp
            · rintro (⟨m', h, hp⟩ | hp)
              · exact ⟨m', List.mem_append_left _ h, hp⟩
              · exact ⟨m, by simp, hp⟩
          refine ⟨y, _, rfl, hy, rfl, ?_⟩
          refine ⟨_, _, rfl, _, _, rfl, _, _, rfl, _, _, rfl, rfl, ?_⟩
          dsimp only [gName, gCons, gNil, List.set, tSeq]
          refine ⟨_, rfl, _, rfl, _, _, rfl, rfl, .inr ⟨by omega, by omega⟩, _, rfl, _, _, rfl, rfl, ?_⟩
          dsimp only [gName, List.set, tSeq]
          obtain ⟨fi, hfi⟩ : ∃ fi : Int, lap * (cn size rs (i + 1) : Int) + (m.fr : Int) = fi := ⟨_, rfl⟩
          rw [hfi]
          have skip : ¬ (0 < m.mn ∧ we ≤ fi ∧ fi + (m.md : Int) - 1 ≤ ea) → ∃ (Fd' : Addr) (zs' : List Int) (o10 o11 o12 o13 o14 o15 : Option V), [some (.ref t), some (.int (i : Int)), some (.int we), some (.int ea), some (.ref ax), some (.ref p), some (.ref Fd), some (.int (cn size rs i : Int)), some (.int (cn size rs (i + 1) : Int)), some (.int lap), some (.int (m.nr : Int)), some (.int (m.mn : Int)), some (.int (m.fr : Int)), some (.int (m.md : Int)), some (.int fi), oz] = [some (.ref t), some (.int (i : Int)), some (.int we), some (.int ea), some (.ref ax), some (.ref p), some (.ref Fd'), some (.int (cn size rs i : Int)), some (.int (cn size rs (i + 1) : Int)), some (.int lap), o10, o11, o12, o13, o14, o15] ∧ Same H3 Hm ∧ Same H4 Hm ∧ Hm Fd' = some (.lst (zs'.map V.int)) ∧ zs'.length ≤ j * 1000 + ((mkR (rwAt rs i)).take (i' + 1)).foldl (fun a m => max a (m.nr + m.mn)) 0 ∧ ∀ w, w ∈ zs' ↔ (w ∈ zs ∨ ∃ m ∈ (mkR (rwAt rs i)).take (i' + 1), 0 < m.mn ∧ we ≤ (m.fr : Int) + lap * (cn size rs (i + 1) : Int) ∧ (m.fr : Int) + (m.md : Int) - 1 + lap * (cn size rs (i + 1) : Int) ≤ ea ∧ ((rwAt rs i).off : Int) + (m.nr : Int) + lap * (cn size rs i : Int) ≤ w ∧ w ≤ ((rwAt rs i).off : Int) + (m.nr : Int) + (m.mn : Int) - 1 + lap * (cn size rs i : Int)) := fun nn => ⟨Fd, zs', _, _, _, _, _, _, rfl, sm3, sm4, eF', by rw [fold1]; omega, fun w => by
            rw [hz' w, mem1]
            constructor
            · rintro (h | h)
              · exact .inl h
              · exact .inr (.inl h)
            · rintro (h | h | ⟨h1, h2, h3, _⟩)
              · exact .inl h
              · exact .inr h
              · exact absurd ⟨h1, by omega, by omega⟩ nn⟩
          refine ⟨_, rfl, _, _, rfl, rfl, _, rfl, ?_⟩
          by_cases c0 : 0 < m.mn
          case neg => exact LK.ifF (decide_eq_false (by omega)) (skip fun z => c0 z.1)
          refine LK.ifT (decide_eq_true (by omega)) ?_
          refine ⟨_, rfl, _, rfl, _, _, rfl, rfl, _, rfl, ?_⟩
          by_cases c1 : we ≤ fi
          case neg => exact LK.ifF (decide_eq_false c1) (skip fun z => c1 z.2.1)
          refine LK.ifT (decide_eq_true c1) ?_
          refine ⟨_, rfl, _, rfl, _, _, rfl, rfl, _, _, rfl, rfl, _, rfl, _, _, rfl, rfl, _, rfl, ?_⟩
          by_cases c2 : fi + (m.md : Int) - 1 ≤ ea
          case neg => exact LK.ifF (decide_eq_false c2) (skip fun z => c2 z.2.2)
          refine LK.ifT (decide_eq_true c2) ?_
          refine ⟨_, rfl, _, rfl, _, rfl, by omega, by omega, fun M nM => ?_⟩
          rw [Int.toNat_natCast]
          have haxm := same_tup sm3 hax3
          refine lcf_range (n := m.mn) (fun _ => true) (fun k : Nat => V.int (lap * (cn size rs i : Int) + ((rwAt rs i).off : Int) + (m.nr : Int) + (k : Int))) nM (by omega) (fun k' H5 yes no hk s5 ye no2 => ⟨rfl, ?_⟩) (fun H5 s5 eM => ?_)
          · exact ⟨_, rfl, _, rfl, _, _, rfl, rfl, .inr ⟨by omega, by omega⟩, _, rfl, ax, _, 1, _, rfl, rfl, same_tup s5 haxm, atI_nat (j := 1) rfl, _, _, rfl, rfl, _, rfl, _, _, rfl, rfl, _, rfl, _, _, rfl, rfl, ye rfl _ (Same.refl _)⟩
          have tm : ((List.range m.mn).filter fun _ => true).map (fun k : Nat => V.int (lap * (cn size rs i : Int) + ((rwAt rs i).off : Int) + (m.nr : Int) + (k : Int))) = ((List.range m.mn).map fun k : Nat => lap * (cn size rs i : Int) + ((rwAt rs i).off : Int) + (m.nr : Int) + (k : Int)).map V.int := by
            rw [List.filter_eq_self.mpr (fun _ _ => rfl), List.map_map]
            rfl
          rw [tm] at eM
          refine ⟨Fd, M, _, _, rfl, rfl, s5 _ _ eF', eM, ?_, fun Z nZ => ?_⟩
          · simp only [List.length_map, List.length_range]
            have : j * 1000 ≤ 1010 * 1000 := Nat.mul_le_mul_right _ (by omega)
            omega
          have tZ := s5.trans (same_new (o := .lst (zs'.map V.int ++ ((List.range m.mn).map fun k : Nat => lap * (cn size rs i : Int) + ((rwAt rs i).off : Int) + (m.nr : Int) + (k : Int)).map V.int)) nZ)
          refine ⟨Z, zs' ++ (List.range m.mn).map (fun k : Nat => lap * (cn size rs i : Int) + ((rwAt rs i).off : Int) + (m.nr : Int) + (k : Int)), _, _, _, _, _, _, rfl, sm3.trans tZ, sm4.trans tZ, by rw [upd_same, List.map_append], ?_, fun w => ?_⟩
          · rw [fold1, List.length_append, List.length_map, List.length_range]
            omega
          · rw [List.mem_append, hz' w, mem1]
            have seg : w ∈ (List.range m.mn).map (fun k : Nat => lap * (cn size rs i : Int) + ((rwAt rs i).off : Int) + (m.nr : Int) + (k : Int)) ↔ ((rwAt rs i).off : Int) + (m.nr : Int) + lap * (cn size rs i : Int) ≤ w ∧ w ≤ ((rwAt rs i).off : Int) + (m.nr : Int) + (m.mn : Int) - 1 + lap * (cn size rs i : Int) := by
              rw [List.mem_map]
              constructor
              · rintro ⟨k', hk, rfl⟩
                have := List.mem_range.mp hk
                omega
              · rintro ⟨h1, h2⟩
                exact ⟨(w - (lap * (cn size rs i : Int) + ((rwAt rs i).off : Int) + (m.nr : Int))).toNat, List.mem_range.mpr (by omega), by omega⟩
            rw [seg]
            constructor
            · rintro ((h | h) | h)
              · exact .inl h
              · exact .inr (.inl h)
              · exact .inr (.inr ⟨c0, by omega, by omega, h.1, h.2⟩)
            · rintro (h | h | ⟨_, _, _, h⟩)
              · exact .inl (.inl h)
              · exact .inl (.inr h)
              · exact .inr h
        · obtain ⟨Fd, zs', o10, o11, o12, o13, o14, o15, rfl, sm3, sm4, eF', zl', hz'⟩ := hI
          rw [List.take_of_length_le (by omega)] at zl'
          have fm : (mkR (rwAt rs i)).foldl (fun a m => max a (m.nr + m.mn)) 0 ≤ 1000 := fold_max_le fun m hm => by
            have := mtk m hm
            omega
          refine ⟨Fd, zs', _, _, _, _, _, _, _, rfl, sm3, eF', by omega, fun w => ?_⟩
          rw [hz' w, List.take_of_length_le (by omega), hz w]
          constructor
          · rintro (⟨q, hq, k, h1, h2, h3⟩ | ⟨m, hm, c, h1, h2, h3, h4⟩)
            · exact ⟨q, hq, k, h1, by omega, h3⟩
            · have m1 := md1 m hm
              refine ⟨spM (rwAt rs i).off m, mk_sp hm c, lap, by omega, by omega, h1, ?_, ?_, ?_⟩
              · show ((m.fr + m.md - 1 : Nat) : Int) + _ ≤ ea
                omega
              · show (((rwAt rs i).off + m.nr : Nat) : Int) + _ ≤ w
                omega
              · show w ≤ (((rwAt rs i).off + m.nr + m.mn - 1 : Nat) : Int) + _
                omega
          · rintro ⟨q, hq, k, h1, h2, h3, h4, h5, h6⟩
            by_cases kk : k = lap
            · subst kk
              obtain ⟨m, hm, c, rfl⟩ := sp_mk hq
              have m1 := md1 m hm
              have h4 : ((m.fr + m.md - 1 : Nat) : Int) + k * (cn size rs (i + 1) : Int) ≤ ea := h4
              have h5 : (((rwAt rs i).off + m.nr : Nat) : Int) + k * (cn size rs i : Int) ≤ w := h5
              have h6 : w ≤ (((rwAt rs i).off + m.nr + m.mn - 1 : Nat) : Int) + k * (cn size rs i : Int) := h6
              exact .inr ⟨m, hm, c, h3, by omega, by omega, by omega⟩
            · exact .inl ⟨q, hq, k, h1, by omega, h3, h4, h5, h6⟩
      · obtain ⟨Fd, zs, o9, o10, o11, o12, o13, o14, o15, rfl, sn, eF, zl, hz⟩ := hI
        have : n * 1000 ≤ 1010 * 1000 := Nat.mul_le_mul_right _ n1
        refine aft _ _ ⟨Fd, zs, _, _, _, _, _, _, _, rfl, sn, eF, by omega, fun w => (hz w).trans ⟨fun ⟨q, hq, k, h1, h2, h3⟩ => ⟨q, hq, k, h3⟩, fun ⟨q, hq, k, h3, h4, h5⟩ => ⟨q, hq, k, (inn q k hq h3 h4).1, (inn q k hq h3 h4).2, h3, h4, h5⟩⟩⟩
    rintro σ Hn ⟨Fd, zs, o9, o10, o11, o12, o13, o14, o15, rfl, sn, eF, zl, hz⟩
    refine ⟨_, rfl, by show 0 ≤ sizeLine; decide, fun em nem => ?_⟩
    have t6 := same_new (o := .lst []) nem
    have eF6 := t6 _ _ eF
    refine ⟨.list (zs.map .int), .list [], .lst (SqL.of eF6) (MZ.dp_ints zs), .lst (SqL.of upd_same) .nil, sh_ints zs, sh_ints [], _, rfl, ?_⟩
    have s6 := (s3.trans sn).trans t6
    generalize upd Hn em (.lst []) = H6 at t6 eF6 s6
    have some_ : lEnd size rs i we ≤ rEnd size rs i ea ↔ ∃ q ∈ spR (rwAt rs i), ∃ k : Int, we ≤ (q.nw : Int) + k * (cn size rs (i + 1) : Int) ∧ (q.ls : Int) + k * (cn size rs (i + 1) : Int) ≤ ea := sp.some_iff
    by_cases ze : zs = []
    · refine LK.ifF (by rw [ze]; rfl) (k _ _ s6 ?_)
      unfold endsD
      rw [if_neg fun c => ?_]
      · exact .non
      obtain ⟨q, hq, k', h1, h2⟩ := some_.mp c
      have := (hz ((q.lo : Int) + k' * (cn size rs i : Int))).mpr ⟨q, hq, k', h1, h2, Int.le_refl _, by have := (sp.ok q hq).2.1; omega⟩
      rw [ze] at this
      exact absurd this List.not_mem_nil
    · have zp : 0 < zs.length := List.length_pos_iff.mpr ze
      refine LK.ifT (by cases zs with | nil => exact absurd rfl ze | cons a r => rfl) ?_
      obtain ⟨w0, hw0⟩ := List.exists_mem_of_ne_nil _ ze
      have ex : ∃ q ∈ spR (rwAt rs i), ∃ k : Int, we ≤ (q.nw : Int) + k * (cn size rs (i + 1) : Int) ∧ (q.ls : Int) + k * (cn size rs (i + 1) : Int) ≤ ea := by
        obtain ⟨q, hq, k', h1, h2, _⟩ := (hz w0).mp hw0
        exact ⟨q, hq, k', h1, h2⟩
      refine ⟨_, rfl, Fd, zs, rfl, SqL.of eF6, zp, fun mi mi1 mi2 => ?_⟩
      refine ⟨_, rfl, Fd, zs, rfl, SqL.of eF6, zp, fun ma ma1 ma2 => ?_⟩
      refine ⟨by show 2 ≤ sizeLine; decide, fun r nr => ?_⟩
      have lmi : mi = lEnd size rs i we := by
        obtain ⟨q, hq, k', h1, h2, e⟩ := sp.lhit ex
        obtain ⟨q2, hq2, k2, g1, g2, g3, _⟩ := (hz mi).mp mi1
        have l2 := sp.lle hq2 g1
        have l1 := mi2 _ ((hz _).mpr ⟨q, hq, k', h1, h2, Int.le_refl _, by have := (sp.ok q hq).2.1; omega⟩)
        show mi = lE _ _ _ _
        omega
      have lma : ma = rEnd size rs i ea := by
        obtain ⟨q, hq, k', h1, h2, e⟩ := sp.rhit ex
        obtain ⟨q2, hq2, k2, g1, g2, _, g3⟩ := (hz ma).mp ma1
        have l2 := sp.rle hq2 g2
        have l1 := ma2 _ ((hz _).mpr ⟨q, hq, k', h1, h2, by have := (sp.ok q hq).2.1; omega, Int.le_refl _⟩)
        show ma = rE _ _ _ _
        omega
      refine k _ _ (s6.trans (same_new nr)) ?_
      unfold endsD
      rw [if_pos (some_.mpr ex), ← lmi, ← lma]
      exact .tup (SqT.of upd_same) (.cons (.int _) (.cons (.int _) .nil))
end
end S8
/-! max of a list of tuples of two ints. -/
namespace MZ
open PySem PySem.Spec PyProof.Rows L2 LK MY
/-- p > q, place by place -/
def gtP (p q : Int × Int) : Bool := decide (q.1 < p.1 ∨ (q.1 = p.1 ∧ q.2 < p.2))
/-- what a tuple of two ints looks like -/
def pairO (p : Int × Int) (t1 t2 : Tok) (n : Nat) (dd : Option Addr) (sl : Array (Option Value)) : Obj := { cls := .type "tuple", dict := dd, data := .seq #[.int p.1 t1, .int p.2 t2] n, slots := sl }
section
open PySem.SeqAt
open PySem.AutoSeq1 (wpAny_loadPart')
open PySem.MeetsSeq PySem.MeetsSeq2 PySem.MeetsSeq3
theorem gt_int1 (A : Around) (s : Shared) (a : Int) (t : Tok) (c : Int) (u : Tok) (prog : Program) (w : World) (E : Value → Shared → Prop) (Q : Value → Shared → Prop) (h : Q (.bool (decide (c < a))) s) :
    wpAny (model prog w) A (richCompare .Gt (.int a t) (.int c u)) Q E s :=
  (PyProof.Rows.gt_int h : wpAny (model prog w) A (compareOp .Gt (.int a t) (.int c u)) Q E s)
theorem pair_gt (x y : Addr) (p q : Int × Int) (t1 t2 u1 u2 : Tok) (m m2 : Nat) (dx dy : Option Addr) (sx sy : Array (Option Value)) :
    Meets (Builtin.«tuple.__gt__» ⟨[.ref x, .ref y], []⟩) (fun _ R s => s.heap.get? x = some (pairO p t1 t2 m dx sx) ∧ s.heap.get? y = some (pairO q u1 u2 m2 dy sy) ∧ R (.ok (.ret (.bool (gtP p q)))) s) :=
  .of_wp fun prog w A R s h => by
    obtain ⟨hp, g, d, tk, os⟩ := s
    obtain ⟨hx, hy, h⟩ := h
    obtain ⟨p1, p2⟩ := p
    obtain ⟨q1, q2⟩ := q
    unfold pairO at hx hy
    have f2 := AutoSeq1.sub_tuple_tuple
    wp_walk using wpAny_loadPart' hx, wpAny_loadPart' hy, wpAny_forIn_list _ (fun rest b s' => b.1 = none ∧ s' = ⟨hp, g, d, tk, os⟩ ∧ ((rest = [(Value.int p1 t1, Value.int q1 u1), (Value.int p2 t2, Value.int q2 u2)]) ∨ (rest = [(Value.int p2 t2, Value.int q2 u2)] ∧ p1 = q1) ∨ (rest = [] ∧ p1 = q1 ∧ p2 = q2))) _
    · rintro ⟨e1, e2⟩ rest b s' ⟨hb', rfl, hz⟩
      have key : ∃ (a c : Int) (t u : Tok), e1 = Value.int a t ∧ e2 = Value.int c u ∧ (a ≠ c → gtP (p1, p2) (q1, q2) = decide (c < a)) ∧ (a = c → (rest = [(Value.int p1 t1, Value.int q1 u1), (Value.int p2 t2, Value.int q2 u2)]) ∨ (rest = [(Value.int p2 t2, Value.int q2 u2)] ∧ p1 = q1) ∨ (rest = [] ∧ p1 = q1 ∧ p2 = q2)) := by
        rcases hz with z | ⟨z, e⟩ | ⟨z, _⟩
        · cases z
          refine ⟨_, _, _, _, rfl, rfl, fun n => decide_eq_decide.mpr ?_, fun e => .inr (.inl ⟨rfl, e⟩)⟩
          dsimp only
          omega
        · cases z
          refine ⟨_, _, _, _, rfl, rfl, fun n => decide_eq_decide.mpr ?_, fun e2 => .inr (.inr ⟨rfl, e, e2⟩)⟩
          dsimp only
          omega
        · cases z
      obtain ⟨a, c, t, u, rfl, rfl, k1, k2⟩ := key
      obtain ⟨e, he, hiff⟩ := HT.eqAt_int A.in1 ⟨hp, g, d, tk, os⟩ a t c u
      have hri := gt_int1 A.in1 ⟨hp, g, d, tk, os⟩ a t c u prog w
      refine wpAny_bind (he prog w _ _ ?_)
      cases e with
      | true =>
        have := k2 (hiff.mp rfl)
        wp_walk
        exact ⟨rfl, rfl, this⟩
      | false =>
        rw [k1 fun q => absurd (hiff.mpr q) Bool.false_ne_true] at h
        wp_walk using hri
        exact ⟨_, rfl, by simpa using h⟩
    · rintro ⟨b1, b2⟩ s' ⟨hb', rfl, hz⟩
      have e : gtP (p1, p2) (q1, q2) = false := by
        rcases hz with z | ⟨z, _⟩ | ⟨_, rfl, rfl⟩
        · cases z
        · cases z
        · exact decide_eq_false (by simp)
      simp only at hb'
      subst hb'
      rw [e] at h
      wp_walk
      exact ⟨_, rfl, by simpa [Builtin.Tuple.tupleCompareSizes] using h⟩
    · exact ⟨rfl, rfl, .inl rfl⟩
end
section
variable {prog : Program} {w : World} {A : Around} {R : Result → Shared → Prop} {I : Addr} {fp wr : List Addr} {n n0 : Nat} {P : Nat → Value → Prop} {St : Nat → Heap → Prop} {h0 : Heap}
/-- what stood below n0 stands -/
def Below (h0 : Heap) (n0 : Nat) (h : Heap) : Prop := ∀ b o, b < n0 → h0.get? b = some o → h.get? b = some o
/-- the turns of max, whatever is compared: the answer may look at what stood below n0 -/
theorem mx_turns (W : Walks prog w A.in1 I fp wr n P St) (bt : Nat → Nat → Bool)
    (hcmp : ∀ i j vi vj (s : Shared) (Q E : Value → Shared → Prop), Below h0 n0 s.heap → P i vi → P j vj → Q (.bool (bt i j)) s → wpAny (model prog w) A.in1 (richCompare .Gt vi vj) Q E s)
    (S : Addr) (hSf : S ∉ fp) (hw : ∀ b ∈ wr, n0 ≤ b) (hS0 : n0 ≤ S) (hn : 0 < n) :
    ∀ (k j : Nat) (s : Shared) (ys : Array Value) (c : Nat), n - j = k → j ≤ n → St j s.heap → Below h0 n0 s.heap → ((j = 0 ∧ ys = #[]) ∨ (0 < j ∧ ∃ vb, P (argBest bt (j - 1)) vb ∧ ys = #[vb, vb])) →
    s.heap.get? S = some { cls := .type "list", dict := none, data := .seq ys c, slots := #[] } →
    (∀ v h' tk, P (argBest bt (n - 1)) v → Below h0 n0 h' → R (.ok (.ret v)) { s with heap := h', toks := tk }) →
    codeAny (model prog w) A (.builtin "max.loop" ⟨[.ref I, .none, .ref S], []⟩) R s := by
  have nw : S ∉ wr := fun z => hSf (W.sub _ z)
  have nm : (toString "max" ++ toString ".loop" : String) = "max.loop" := by decide
  have kp : ∀ {h h' : Heap}, Below h0 n0 h → (∀ b o, b ∉ wr → h.get? b = some o → h'.get? b = some o) → Below h0 n0 h' := fun b1 kk b o hb e => kk b o (fun z => absurd (hw b z) (by omega)) (b1 b o hb e)
  have kq : ∀ {h : Heap} {f : Obj → Obj}, Below h0 n0 h → Below h0 n0 (h.update S f) := fun b1 b o hb e => (Heap.get?_update_other _ _ (show S ≠ b from fun z => Nat.lt_irrefl _ (Nat.lt_of_lt_of_le hb (z ▸ hS0)))).trans (b1 b o hb e)
  intro k
  induction k with
  | zero =>
    intro j s ys c hk hj hst hb hys hS hR
    obtain rfl : j = n := by omega
    rcases hys with ⟨rfl, _⟩ | ⟨_, vb, hPb, rfl⟩
    · exact absurd hn (by decide)
    refine (codeAny_builtin PySem.F.entry_max_loop (?_)); rw [Around.under_plainId PySem.F.plain_max_loop _]
    show wpAny _ A.in1 (seqItems? (.ref S) >>= _) _ _ s
    refine wpAny_bind <| wpAny_seqItems hS rfl ?_
    show wpAny _ A.in1 (tryCatch (pyNext (.ref I)) _ >>= _) _ _ s
    refine wpAny_bind <| wpAny_tryCatch <| W.done s _ _ hst fun h1 k1 kk => ?_
    show wpAny _ A.in1 (updateSeq S (fun _ => #[]) >>= _) _ _ _
    refine wpAny_bind <| wpAny_updateSeq (kk S _ nw hS) rfl <| wpAny_bind <| wpAny_letGo <| wpAny_pure ?_
    exact hR vb _ k1 hPb (kq (kp hb kk))
  | succ k ih =>
    intro j s ys c hk hj hst hb hys hS hR
    have lt : j < n := by omega
    refine (codeAny_builtin PySem.F.entry_max_loop (?_)); rw [Around.under_plainId PySem.F.plain_max_loop _]
    show wpAny _ A.in1 (seqItems? (.ref S) >>= _) _ _ s
    refine wpAny_bind <| wpAny_seqItems hS rfl ?_
    show wpAny _ A.in1 (tryCatch (pyNext (.ref I)) _ >>= _) _ _ s
    refine wpAny_bind <| wpAny_tryCatch <| W.item j s _ _ lt hst fun v h1 k1 hv st1 kk => ?_
    have hS1 := kk S _ nw hS
    have fr : ∀ {f : Obj → Obj}, St (j + 1) (h1.update S f) := W.frame _ _ _ st1 fun b bf o e => (Heap.get?_update_other _ _ fun z : S = b => hSf (z ▸ bf)).trans e
    rcases hys with ⟨rfl, rfl⟩ | ⟨j0, vb, hPb, rfl⟩
    · show wpAny _ A.in1 (updateSeq S (fun _ => #[v, v]) >>= _) _ _ _
      refine wpAny_bind <| wpAny_updateSeq hS1 rfl ?_
      rw [nm]
      exact wpAny_pure ⟨plainId_quiet PySem.F.plain_max_loop _, ih 1 _ _ _ (by omega) lt fr (kq (kp hb kk)) (.inr ⟨by decide, v, hv, rfl⟩) (Heap.get?_update_self _ hS1 rfl) fun v' h2 k2 hv' b2 => hR v' h2 k2 hv' b2⟩
    · show wpAny _ A.in1 (tryCatch (holding [v, v] (richCompare .Gt v vb >>= _)) _ >>= _) _ _ _
      refine wpAny_bind <| wpAny_tryCatch <| wpAny_holding <| wpAny_bind <| hcmp j (argBest bt (j - 1)) v vb _ _ _ (kp hb kk) hv hPb <| wpAny_bind <| wpAny_holding <| wpAny_truthy_bool <| wpAny_bind <| wpAny_letGo <| wpAny_pure ?_
      have ab : argBest bt (j + 1 - 1) = if bt j (argBest bt (j - 1)) then j else argBest bt (j - 1) := by
        obtain ⟨j', rfl⟩ : ∃ j', j = j' + 1 := ⟨j - 1, by omega⟩
        rfl
      cases hbt : bt j (argBest bt (j - 1)) with
      | true =>
        rw [hbt, if_pos rfl] at ab
        simp only [if_true]
        refine wpAny_bind <| wpAny_updateSeq hS1 rfl <| wpAny_bind <| wpAny_letGo ?_
        rw [nm]
        exact wpAny_pure ⟨plainId_quiet PySem.F.plain_max_loop _, ih (j + 1) _ _ _ (by omega) lt fr (kq (kp hb kk)) (.inr ⟨by omega, v, by rw [ab]; exact hv, rfl⟩) (Heap.get?_update_self _ hS1 rfl) fun v' h2 k2 hv' b2 => hR v' h2 k2 hv' b2⟩
      | false =>
        rw [hbt, if_neg (by decide)] at ab
        simp only [Bool.false_eq_true, if_false]
        refine wpAny_bind <| wpAny_letGo ?_
        rw [nm]
        exact wpAny_pure ⟨plainId_quiet PySem.F.plain_max_loop _, ih (j + 1) _ _ c (by omega) lt st1 (kp hb kk) (.inr ⟨by omega, vb, by rw [ab]; exact hPb, rfl⟩) hS1 fun v' h2 k2 hv' b2 => hR v' h2 k2 hv' b2⟩
end
section
variable {prog : Program} {w : World} {A : Around} {E : Value → Shared → Prop} {s : Shared}
def IsPair (h : Heap) (a : Addr) (p : Int × Int) : Prop := ∃ t1 t2 n dd sl, h.get? a = some (pairO p t1 t2 n dd sl)
theorem isPair_of {h : Heap} {a : Addr} {x y : Int} {its : List Value} (hi : IntsAre its [x, y]) (ht : IsTup h a its.toArray) : IsPair h a (x, y) := by
  obtain ⟨⟨cls, dd, data, sl⟩, ho, hc, n, hd⟩ := ht
  cases hi with
  | cons _ t1 h2 =>
    cases h2 with
    | cons _ t2 h3 =>
      cases h3
      simp only at hc hd
      subst hc hd
      exact ⟨t1, t2, n, dd, sl, ho⟩
theorem gt_pairs {a b : Addr} {p q : Int × Int} {Q : Value → Shared → Prop} (ha : IsPair s.heap a p) (hb : IsPair s.heap b q) (hu : A.units < cLine) (h : Q (.bool (gtP p q)) s) : wpAny (model prog w) A (richCompare .Gt (.ref a) (.ref b)) Q E s := by
  obtain ⟨t1, t2, n, dd, sl, ha⟩ := ha
  obtain ⟨u1, u2, n2, dd2, sl2, hb⟩ := hb
  exact richCompare_meets_room (op := .Gt) ⟨_, ha, rfl⟩ ⟨_, hb, rfl⟩ PySem.F.slot_tuple_gt PySem.F.entry_tuple_gt (PySem.F.args_tuple_gt_2 _ _) (pair_gt a b p q t1 t2 u1 u2 n n2 dd dd2 sl sl2)
    ⟨ha, hb, show Value.bool (gtP p q) ≠ Value.notImplemented ∧ Q (.bool (gtP p q)) s from ⟨(fun x => nomatch x), h⟩⟩ hu
theorem gtP_tot {p q r : Int × Int} (h1 : gtP p q = false) (h2 : gtP q r = false) : gtP p r = false := by
  unfold gtP at *
  have := of_decide_eq_false h1
  have := of_decide_eq_false h2
  exact decide_eq_false (by omega)
theorem gtP_irr (p : Int × Int) : gtP p p = false := decide_eq_false (by omega)
theorem gtP_asym {p q : Int × Int} (h : gtP p q = true) : gtP q p = false := by
  unfold gtP at *
  have := of_decide_eq_true h
  exact decide_eq_false (by omega)
theorem best_ok (f : Nat → Int × Int) : ∀ k, argBest (fun i j => gtP (f i) (f j)) k ≤ k ∧ ∀ j, j ≤ k → gtP (f j) (f (argBest (fun i j => gtP (f i) (f j)) k)) = false
  | 0 => ⟨Nat.le_refl _, fun j hj => by
    obtain rfl : j = 0 := by omega
    exact gtP_irr _⟩
  | k + 1 => by
    obtain ⟨h1, h2⟩ := best_ok f k
    have e : argBest (fun i j => gtP (f i) (f j)) (k + 1) = if gtP (f (k + 1)) (f (argBest (fun i j => gtP (f i) (f j)) k)) then k + 1 else argBest (fun i j => gtP (f i) (f j)) k := rfl
    rw [e]
    cases c : gtP (f (k + 1)) (f (argBest (fun i j => gtP (f i) (f j)) k)) with
    | true =>
      rw [if_pos rfl]
      refine ⟨Nat.le_refl _, fun j hj => ?_⟩
      rcases Nat.lt_or_ge j (k + 1) with l | l
      · exact gtP_tot (h2 j (by omega)) (gtP_asym c)
      · obtain rfl : j = k + 1 := by omega
        exact gtP_irr _
    | false =>
      rw [if_neg (by decide)]
      refine ⟨by omega, fun j hj => ?_⟩
      rcases Nat.lt_or_ge j (k + 1) with l | l
      · exact h2 j (by omega)
      · obtain rfl : j = k + 1 := by omega
        exact c
/-- max of a list of tuples of two ints: one of them, and none is greater -/
theorem max_pairs {l : Addr} {ads : List Addr} {ps : List (Int × Int)} {Q : Value → Shared → Prop} (hh : A.handled = none) (hl : s.heap.IsList l (ads.map Value.ref).toArray) (el : ads.length = ps.length)
    (hp : ∀ (i : Nat) (a : Addr) (p : Int × Int), ads[i]? = some a → ps[i]? = some p → IsPair s.heap a p) (hne : 0 < ps.length) (hu : A.units + 1 < cLine)
    (h : ∀ h' tk (i : Nat) (a : Addr) (p : Int × Int), (∀ b o, s.heap.get? b = some o → h'.get? b = some o) → ads[i]? = some a → ps[i]? = some p → (∀ q ∈ ps, gtP q p = false) → Q (.ref a) { s with heap := h', toks := tk }) :
    wpAny (model prog w) A (call (.builtin "max") [.ref l]) Q E s := by
  have nm : (toString "max" ++ toString ".loop" : String) = "max.loop" := by decide
  have hlt : l < s.heap.objs.size := by obtain ⟨_, e, _⟩ := hl; exact Heap.lt_size e
  have sz : (ads.map Value.ref).toArray.size = ps.length := by simp [el]
  refine call_function_tree PySem.F.kind_max PySem.F.plain_max PySem.F.entry_max (PySem.F.args_max1 _) ?_
  show wpAny _ A.in1 (Builtin.Builtins.bindParams "max" ["key", "default"] 0 ⟨[], []⟩ >>= _) _ _ s
  refine wpAny_bind <| wpAny_of_eq (show Builtin.Builtins.bindParams "max" ["key", "default"] 0 ⟨[], []⟩ = pure [none, none] from rfl) <| wpAny_bind <| wpAny_pure <| wpAny_bind <| wpAny_pyIter_list hl <| wpAny_bind <| wpAny_newObj_type ?_
  rw [nm]
  have W := Walks.list (prog := prog) (w := w) (A := A.in1) hh s.heap.objs.size l (Nat.ne_of_lt hlt) (ads.map Value.ref).toArray
  refine wpAny_pure ⟨plainId_quiet PySem.F.plain_max_loop _, mx_turns (n0 := s.heap.objs.size) (h0 := s.heap) W (fun i j => gtP ((ps[i]?).getD (0, 0)) ((ps[j]?).getD (0, 0))) (fun i j vi vj s' Q' E' hb hi hj hq => ?_) _ ?_ ?_ ?_ (by rw [sz]; exact hne) _ 0 _ #[] _ rfl (Nat.zero_le _) ?_ ?_ (.inl ⟨rfl, rfl⟩) (Heap.get?_push_size _ rfl) fun v h' tk hv hb => ?_⟩
  · have one : ∀ i v, (ads.map Value.ref).toArray[i]? = some v → ∃ (a : Addr) (p : Int × Int), v = Value.ref a ∧ ps[i]? = some p ∧ IsPair s'.heap a p := fun i v e => by
      rw [List.getElem?_toArray, List.getElem?_map] at e
      obtain ⟨a, ea, rfl⟩ := Option.map_eq_some_iff.mp e
      have il := (List.getElem?_eq_some_iff.mp ea).1
      have ep : ps[i]? = some ps[i] := List.getElem?_eq_getElem (by omega)
      obtain ⟨t1, t2, n, dd, sl, eo⟩ := hp i a _ ea ep
      exact ⟨a, _, rfl, ep, t1, t2, n, dd, sl, hb a _ (Heap.lt_size eo) eo⟩
    obtain ⟨a, p, rfl, ep, pa⟩ := one i vi hi
    obtain ⟨b, q, rfl, eq, pb⟩ := one j vj hj
    rw [ep, eq] at hq
    exact gt_pairs (A := A.in1) pa pb (show A.in1.units < cLine from hu) hq
  · intro z
    rw [Heap.size_push] at z
    rcases List.mem_cons.mp z with z | z
    · exact absurd z (Nat.succ_ne_self _)
    · have := List.mem_singleton.mp z
      exact absurd hlt (by rw [← this]; exact Nat.not_lt.mpr (Nat.le_succ _))
  · intro b m
    rw [List.mem_singleton.mp m]
    exact Nat.le_refl _
  · rw [Heap.size_push]
    exact Nat.le_succ _
  · refine W.frame _ _ _ ⟨⟨_, Heap.get?_push_size _ rfl, rfl, rfl⟩, hl.push _⟩ fun b _ o e => Heap.get?_push_of_some _ e
  · exact fun b o _ e => Heap.get?_push_of_some _ (Heap.get?_push_of_some _ e)
  · obtain ⟨h1, h2⟩ := best_ok (fun i => (ps[i]?).getD (0, 0)) ((ads.map Value.ref).toArray.size - 1)
    rw [List.getElem?_toArray, List.getElem?_map] at hv
    obtain ⟨a, ea, rfl⟩ := Option.map_eq_some_iff.mp hv
    have il := (List.getElem?_eq_some_iff.mp ea).1
    have ep : ps[argBest (fun i j => gtP ((ps[i]?).getD (0, 0)) ((ps[j]?).getD (0, 0))) ((ads.map Value.ref).toArray.size - 1)]? = some _ := List.getElem?_eq_getElem (by omega)
    refine h h' tk _ a _ (fun b o e => hb b o (Heap.lt_size e) e) ea ep fun q m => ?_
    obtain ⟨j, ej⟩ := List.getElem?_of_mem m
    have jl := (List.getElem?_eq_some_iff.mp ej).1
    have := h2 j (by rw [sz]; omega)
    rw [ep, ej] at this
    exact this
end
section
variable {X : Cx}
/-- max(xs) of a list of tuples of two ints -/
def rMaxT (K : PySem.W.Frag) : List V → Hp → VK → Prop := fun vs H Q => ∃ (l : Addr) (ads : List Addr) (ps : List (Int × Int)), vs = [V.ref l] ∧ SqL K H l (ads.map V.ref) ∧ ads.length = ps.length ∧ 0 < ps.length ∧
  (∀ (i : Nat) (a : Addr) (p : Int × Int), ads[i]? = some a → ps[i]? = some p → SqT K H a [.int p.1, .int p.2]) ∧ ∀ (i : Nat) (a : Addr) (p : Int × Int), ads[i]? = some a → ps[i]? = some p → (∀ q ∈ ps, gtP q p = false) → Q (.ref a) H
theorem vals_refs : ∀ {as : List Addr} {us : List Value}, Vals (as.map V.ref) us → us = as.map Value.ref
  | [], us, r => by cases r; rfl
  | a :: as, us, r => by
    cases r with
    | cons x t =>
      cases x
      rw [vals_refs t]
      rfl
theorem cr_maxT (hc : X.calm = true) (hu : X.A.units + 1 < cLine) : CallR X (.builtin "max") (rMaxT X.K) := by
  intro pins s σ H vs us Q I r h
  obtain ⟨l, ads, ps, rfl, hs, el, hne, hp, q⟩ := h
  obtain ⟨its, rv, hl, _⟩ := I.list hs
  rw [Vals.ref1 r]
  rw [vals_refs rv] at hl
  refine max_pairs (I.ok.hd hc) hl.isList el (fun i a p ea ep => ?_) hne hu fun h' tk i a p hk ea ep hq => ⟨.ref a, H, I.kept hk, rfl, q i a p ea ep hq⟩
  obtain ⟨us2, r2, p2, _⟩ := I.tuple (hp i a p ea ep)
  have i2 : IntsAre us2 [p.1, p.2] := L2.intsAre_of (ns := [p.1, p.2]) r2
  exact isPair_of i2 p2
end
end MZ
/-! The stitch above a loop, row by row; how ends below and children above hang together. -/
namespace MZ
open PySem PySem.Spec PyProof.Rows L2 LK MY
def fVal (a b : Nat) (z : Int) (q : Spn) : Int := (q.nw : Int) + (z - (q.lo : Int)) / (a : Int) * (b : Int)
def gVal (a b : Nat) (z : Int) (q : Spn) : Int := (q.ls : Int) + (z - (q.lo : Int)) / (a : Int) * (b : Int)
/-- the first and the last loop of the stitch above -/
def fE (L : List Spn) (a b : Nat) (z : Int) : Int := maxL (L.map (fVal a b z))
def gE (L : List Spn) (a b : Nat) (z : Int) : Int := maxL (L.map (gVal a b z))
section
variable {L : List Spn} {off a b : Nat} (S : SpOk L off a b)
include S
theorem SpOk.fval {q : Spn} (z : Int) : ∃ k : Int, fVal a b z q = q.nw + k * b ∧ gVal a b z q = q.ls + k * b ∧ (q.lo : Int) + k * a ≤ z ∧ ∀ l : Int, (q.lo : Int) + l * a ≤ z → l ≤ k := by
  have a0 : (0 : Int) < a := by have := S.a1; omega
  obtain ⟨h1, h2⟩ := (div_iff a0).mp (rfl : (z - (q.lo : Int)) / (a : Int) = _)
  refine ⟨(z - (q.lo : Int)) / (a : Int), rfl, rfl, by omega, fun l hl => ?_⟩
  refine Classical.byContradiction fun y => ?_
  have := mul_mono (a := (a : Int)) (by omega) (show (z - (q.lo : Int)) / (a : Int) + 1 ≤ l by omega)
  omega
theorem SpOk.fle {q : Spn} {k z : Int} (m : q ∈ L) (h : (q.lo : Int) + k * a ≤ z) : (q.nw : Int) + k * b ≤ fE L a b z ∧ (q.ls : Int) + k * b ≤ gE L a b z := by
  obtain ⟨_, h2⟩ := maxL_ok (l := L.map (fVal a b z)) (by simp [S.ne])
  obtain ⟨_, g2⟩ := maxL_ok (l := L.map (gVal a b z)) (by simp [S.ne])
  have := h2 _ (List.mem_map_of_mem m)
  have := g2 _ (List.mem_map_of_mem m)
  obtain ⟨l, e, e', _, h3⟩ := S.fval (q := q) z
  have := mul_mono (a := (b : Int)) (by omega) (h3 k h)
  show _ ≤ maxL _ ∧ _ ≤ maxL _
  omega
/-- both are of one stitch -/
theorem SpOk.fmem (z : Int) : ∃ q ∈ L, ∃ k : Int, fE L a b z = q.nw + k * b ∧ gE L a b z = q.ls + k * b ∧ (q.lo : Int) + k * a ≤ z := by
  obtain ⟨h, _⟩ := maxL_ok (l := L.map (fVal a b z)) (by simp [S.ne])
  obtain ⟨q, m, e⟩ := List.mem_map.mp h
  obtain ⟨k, h1, _, h2, _⟩ := S.fval (q := q) z
  obtain ⟨h', _⟩ := maxL_ok (l := L.map (gVal a b z)) (by simp [S.ne])
  obtain ⟨p, mp, ep⟩ := List.mem_map.mp h'
  obtain ⟨l, _, p1, p2, _⟩ := S.fval (q := p) z
  have e1 : fE L a b z = q.nw + k * b := e.symm.trans h1
  have e2 : gE L a b z = p.ls + l * b := ep.symm.trans p1
  have q1 := S.ok q m
  have r1 := S.ok p mp
  have f1 := S.fle m h2
  have f2 := S.fle mp p2
  rcases Int.le_total ((p.lo : Int) + l * a) (q.lo + k * a) with c | c
  · have o := S.order (k := l) (l := k) mp m (by omega)
    exact ⟨q, m, k, e1, by omega, h2⟩
  · have o := S.order (k := k) (l := l) m mp (by omega)
    exact ⟨p, mp, l, by omega, e2, p2⟩
/-- the stitch that takes z -/
theorem SpOk.fhit {q : Spn} {k z : Int} (m : q ∈ L) (h1 : (q.lo : Int) + k * a ≤ z) (h2 : z ≤ q.hi + k * a) : fE L a b z = q.nw + k * b ∧ gE L a b z = q.ls + k * b := by
  obtain ⟨p, mp, l, e1, e2, h⟩ := S.fmem z
  have o := S.order (k := l) (l := k) mp m (by omega)
  have f1 := S.fle m h1
  omega
theorem SpOk.fper (z k : Int) : fE L a b (z + k * a) = fE L a b z + k * b ∧ gE L a b (z + k * a) = gE L a b z + k * b := by
  obtain ⟨q, m, l, e, e', h⟩ := S.fmem z
  obtain ⟨q', m', l', d, d', h'⟩ := S.fmem (z + k * a)
  have h1 := S.fle (k := l + k) (z := z + k * a) m (by rw [Int.add_mul]; omega)
  have h2 := S.fle (k := l' - k) (z := z) m' (by rw [Int.sub_mul]; omega)
  rw [Int.add_mul] at h1
  rw [Int.sub_mul] at h2
  omega
/-- the left end lies at y or left of it iff the first child of y lies at x or right of it -/
theorem SpOk.lgal {x y : Int} : lE L a b x ≤ y ↔ x ≤ fE L a b y := by
  constructor
  · intro h
    obtain ⟨q, m, k, e, h1⟩ := S.lmem x
    have := S.fle (z := y) (k := k) m (by omega)
    omega
  · intro h
    obtain ⟨q, m, k, e, _, h1⟩ := S.fmem y
    have := S.lle (x := x) (k := k) m (by omega)
    omega
theorem SpOk.rgal {x y : Int} (hit : ∃ q ∈ L, ∃ k : Int, (q.lo : Int) + k * a ≤ y ∧ y ≤ q.hi + k * a) : y ≤ rE L a b x ↔ gE L a b y ≤ x := by
  constructor
  · intro h
    obtain ⟨q, m, k, e, h1⟩ := S.rmem x
    obtain ⟨p, mp, l, _, e2, h2⟩ := S.fmem y
    have o := S.order (k := l) (l := k) mp m (by omega)
    omega
  · intro h
    obtain ⟨q, m, k, h1, h2⟩ := hit
    obtain ⟨_, e⟩ := S.fhit m h1 h2
    have := S.rle (x := x) (k := k) m (by omega)
    omega
/-- the greatest pair -/
theorem SpOk.fmax {z : Int} {p : Int × Int} (hm : p ∈ L.map fun q => (fVal a b z q, gVal a b z q)) (h : ∀ q ∈ L.map (fun q => (fVal a b z q, gVal a b z q)), gtP q p = false) : p = (fE L a b z, gE L a b z) := by
  obtain ⟨q, m, rfl⟩ := List.mem_map.mp hm
  obtain ⟨r, mr, k, e1, e2, h1⟩ := S.fmem z
  obtain ⟨l, d1, d2, d3, d4⟩ := S.fval (q := r) z
  obtain ⟨l', g1, g2, g3, g4⟩ := S.fval (q := q) z
  have f1 := S.fle m g3
  have f2 := S.fle mr d3
  have := mul_mono (a := (b : Int)) (by omega) (d4 k h1)
  have nb := of_decide_eq_false (h _ (List.mem_map_of_mem (f := fun q => (fVal a b z q, gVal a b z q)) mr))
  dsimp only at nb
  refine Prod.ext ?_ ?_
  · show fVal a b z q = fE L a b z
    omega
  · show gVal a b z q = gE L a b z
    omega
end
/-- every loop of a right row is taken by a stitch -/
theorem spn_hit : ∀ (ss : List Sti) (lo nw r : Nat), r < tks ss → ∃ q ∈ spn lo nw ss, q.lo ≤ lo + r ∧ lo + r ≤ q.hi
  | [], lo, nw, r, h => absurd h (Nat.not_lt_zero _)
  | s :: ss, lo, nw, r, h => by
    have e1 : tks (s :: ss) = s.1 + tks ss := by
      unfold tks
      rw [List.map_cons, List.sum_cons]
    unfold spn
    by_cases c : r < s.1
    · refine ⟨⟨lo, lo + s.1 - 1, nw, nw + s.2 - 1⟩, List.mem_append_left _ (by rw [if_pos (by omega)]; exact List.mem_singleton.mpr rfl), ?_, ?_⟩
      · show lo ≤ lo + r
        omega
      · show lo + r ≤ lo + s.1 - 1
        omega
    · obtain ⟨q, m, h1, h2⟩ := spn_hit ss (lo + s.1) (nw + s.2) (r - s.1) (by omega)
      exact ⟨q, List.mem_append_right _ m, by omega, by omega⟩
theorem OkRow.hit {c : Nat} {r : Rw} (h : OkRow c r) (y : Int) : ∃ q ∈ spR r, ∃ k : Int, (q.lo : Int) + k * c ≤ y ∧ y ≤ q.hi + k * c := by
  have c1 : (0 : Int) < c := by have := h.off; omega
  have r0 := Int.emod_nonneg (y - r.off) (Int.ne_of_gt c1)
  have r1 := Int.emod_lt_of_pos (y - r.off) c1
  have e := Int.mul_ediv_add_emod (y - r.off) c
  obtain ⟨n, hn⟩ := Int.eq_ofNat_of_zero_le r0
  obtain ⟨q, m, h1, h2⟩ := spn_hit r.sts r.off 0 n (by rw [h.sts.tk]; omega)
  refine ⟨q, m, (y - r.off) / c, ?_, ?_⟩
  · rw [Int.mul_comm]
    omega
  · rw [Int.mul_comm]
    omega
/-! ### in a chart -/
def upF (size : Nat) (rs : List Rw) (i : Nat) (z : Int) : Int := fE (spR (rwAt rs ((i + 1) % rs.length))) (cn size rs ((i + 1) % rs.length)) (cn size rs ((i + 1) % rs.length + 1)) z
def upG (size : Nat) (rs : List Rw) (i : Nat) (z : Int) : Int := gE (spR (rwAt rs ((i + 1) % rs.length))) (cn size rs ((i + 1) % rs.length)) (cn size rs ((i + 1) % rs.length + 1)) z
theorem OkCh.wrapU {size : Nat} {rs : List Rw} (h : OkCh size rs) {i : Nat} (il : i < rs.length) : cn size rs ((i + 1) % rs.length) = cn size rs (i + 1) := by
  by_cases e : i + 1 = rs.length
  · rw [e, Nat.mod_self, h.wrap.1, h.wrap.2]
  · rw [Nat.mod_eq_of_lt (by omega)]
theorem upF_per {size : Nat} {rs : List Rw} (h : OkCh size rs) : Per rs.length (upF size rs) true (fun i => cn size rs (i + 1)) := fun i il x k => by
  have := ((h.sp (i := (i + 1) % rs.length) (Nat.mod_lt _ (by omega))).fper x k).1
  rw [h.wrapU il] at this
  unfold upF
  rw [h.wrapU il]
  exact this
theorem upG_per {size : Nat} {rs : List Rw} (h : OkCh size rs) : Per rs.length (upG size rs) true (fun i => cn size rs (i + 1)) := fun i il x k => by
  have := ((h.sp (i := (i + 1) % rs.length) (Nat.mod_lt _ (by omega))).fper x k).2
  rw [h.wrapU il] at this
  unfold upG
  rw [h.wrapU il]
  exact this
theorem lgal1 {size : Nat} {rs : List Rw} (h : OkCh size rs) {i : Nat} (il : i < rs.length) (x y : Int) : lEnd size rs (nxR rs.length true i) x ≤ y ↔ x ≤ upF size rs i y :=
  (h.sp (i := (i + 1) % rs.length) (Nat.mod_lt _ (by omega))).lgal
theorem rgal1 {size : Nat} {rs : List Rw} (h : OkCh size rs) {i : Nat} (il : i < rs.length) (x y : Int) : y ≤ rEnd size rs (nxR rs.length true i) x ↔ upG size rs i y ≤ x :=
  (h.sp (i := (i + 1) % rs.length) (Nat.mod_lt _ (by omega))).rgal ((h.row (i := (i + 1) % rs.length) (Nat.mod_lt _ (by omega))).2.1.hit y)
theorem nxR_back {n i : Nat} (h : i < n) : nxR n false (nxR n true i) = i := by
  unfold nxR
  rw [if_pos rfl, if_neg (by decide)]
  by_cases e : i + 1 = n
  · rw [e, Nat.mod_self, show 0 + n - 1 = i by omega, Nat.mod_eq_of_lt h]
  · rw [Nat.mod_eq_of_lt (show i + 1 < n by omega), show i + 1 + n - 1 = i + n by omega, Nat.add_mod_right, Nat.mod_eq_of_lt h]
theorem rowD_add {n : Nat} {up : Bool} : ∀ (a b i : Nat), rowD n up (a + b) i = rowD n up b (rowD n up a i)
  | 0, b, i => by rw [Nat.zero_add]; rfl
  | a + 1, b, i => by
    rw [show a + 1 + b = (a + b) + 1 by omega]
    exact rowD_add a b _
theorem rowD_back {n : Nat} : ∀ (k i : Nat), i < n → rowD n false k (rowD n true k i) = i
  | 0, i, _ => rfl
  | k + 1, i, h => by
    show rowD n false (k + 1) (rowD n true k (nxR n true i)) = i
    rw [rowD_add, rowD_back k _ (nxR_lt (by omega) true i)]
    exact nxR_back h
theorem lgalK {size : Nat} {rs : List Rw} (h : OkCh size rs) : ∀ (k i : Nat) (x y : Int), i < rs.length → (walkD rs.length (lEnd size rs) false k (rowD rs.length true k i) x ≤ y ↔ x ≤ walkD rs.length (upF size rs) true k i y)
  | 0, i, x, y, _ => Iff.rfl
  | k + 1, i, x, y, il => by
    have nl := nxR_lt (n := rs.length) (by omega) true i
    have e : walkD rs.length (lEnd size rs) false (k + 1) (rowD rs.length true (k + 1) i) x = lEnd size rs (nxR rs.length true i) (walkD rs.length (lEnd size rs) false k (rowD rs.length true k (nxR rs.length true i)) x) := by
      rw [walkD_add]
      show lEnd size rs (rowD rs.length false k (rowD rs.length true k (nxR rs.length true i))) _ = _
      rw [rowD_back k _ nl]
      rfl
    rw [e, lgal1 h il]
    exact lgalK h k _ x _ nl
theorem rgalK {size : Nat} {rs : List Rw} (h : OkCh size rs) : ∀ (k i : Nat) (x y : Int), i < rs.length → (y ≤ walkD rs.length (rEnd size rs) false k (rowD rs.length true k i) x ↔ walkD rs.length (upG size rs) true k i y ≤ x)
  | 0, i, x, y, _ => Iff.rfl
  | k + 1, i, x, y, il => by
    have nl := nxR_lt (n := rs.length) (by omega) true i
    have e : walkD rs.length (rEnd size rs) false (k + 1) (rowD rs.length true (k + 1) i) x = rEnd size rs (nxR rs.length true i) (walkD rs.length (rEnd size rs) false k (rowD rs.length true k (nxR rs.length true i)) x) := by
      rw [walkD_add]
      show rEnd size rs (rowD rs.length false k (rowD rs.length true k (nxR rs.length true i))) _ = _
      rw [rowD_back k _ nl]
      rfl
    rw [e, rgal1 h il]
    exact rgalK h k _ x _ nl
end MZ
/-! Arguments by name, backwards. -/
namespace MZ
open PySem PySem.Spec PyProof.Rows L2 LK MY
theorem vals_len : ∀ {vs : List V} {us : List Value}, Vals vs us → vs.length = us.length
  | _, _, .nil => rfl
  | _, _, .cons _ t => congrArg (· + 1) (vals_len t)
/-- all by name, in the order backwards -/
def rvN (n : Nat) {α : Type} (a b : List α) : List α := if a.length = 0 ∧ b.length = n then b.reverse else []
theorem vals_rev {vs : List V} {us : List Value} (h : Vals vs us) : Vals vs.reverse us.reverse := by
  induction h with
  | nil => exact .nil
  | cons r t ih =>
    rw [List.reverse_cons, List.reverse_cons]
    exact ih.append (.cons r .nil)
theorem rvN_rel {n : Nat} {vs : List V} {us : List Value} {zs : List V} {ws : List Value} (a : Vals vs us) (b : Vals zs ws) : Vals (rvN n vs zs) (rvN n us ws) := by
  unfold rvN
  rw [vals_len a, vals_len b]
  split
  · exact vals_rev b
  · exact .nil
def fwN (n : Nat) {α : Type} (a b : List α) : List α := if a.length = 0 ∧ b.length = n then b else []
theorem fwN_rel {n : Nat} {vs : List V} {us : List Value} {zs : List V} {ws : List Value} (a : Vals vs us) (b : Vals zs ws) : Vals (fwN n vs zs) (fwN n us ws) := by
  unfold fwN
  rw [vals_len a, vals_len b]
  split
  · exact b
  · exact .nil
def rv3 {α : Type} : List α → List α → List α := rvN 3
def rv4 {α : Type} : List α → List α → List α := rvN 4
def rv5 {α : Type} : List α → List α → List α := rvN 5
theorem rv3_eq {α : Type} {a b c : α} : rv3 [] [a, b, c] = [c, b, a] := rfl
theorem rv5_eq {α : Type} {a b c d e : α} : rv5 [] [a, b, c, d, e] = [e, d, c, b, a] := rfl
theorem good_pairs (a b c d : Int) : (PyData.list [.tuple [.int a, .int b], .tuple [.int c, .int d]]).canLay0 = true ∧ (PyData.list [.tuple [.int a, .int b], .tuple [.int c, .int d]]).depth < 6 ∧ (PyData.list [.tuple [.int a, .int b], .tuple [.int c, .int d]]).depth ≤ 60 := ⟨rfl, by show 2 < 6; decide, by show 2 ≤ 60; decide⟩
theorem dp_pair {K : PySem.W.Frag} {H : Hp} {v : V} {a b : Int} (h : Dp K H v (.tuple [.int a, .int b])) : ∃ p, v = .ref p ∧ SqT K H p [.int a, .int b] := by
  cases h with
  | tup q r =>
    obtain rfl := ints_back (ns := [a, b]) r
    exact ⟨_, rfl, q⟩
end MZ
/-! How far a round of a chart turns: monotone maps of a ring. -/
namespace MZ
open PySem PySem.Spec PyProof.Rows L2 LK MY
def Mono (T : Int → Int) : Prop := ∀ x y : Int, x ≤ y → T x ≤ T y
theorem itr_snoc (T : Int → Int) (k : Nat) (x : Int) : itr T (k + 1) x = T (itr T k x) := itr_add T k 1 x
theorem itr_mono {T : Int → Int} (h : Mono T) : ∀ (k : Nat) (x y : Int), x ≤ y → itr T k x ≤ itr T k y
  | 0, _, _, l => l
  | k + 1, x, y, l => itr_mono h k _ _ (h x y l)
theorem itr_per {c : Nat} {T : Int → Int} (h : Per1 c T) : ∀ (k : Nat) (x m : Int), itr T k (x + m * c) = itr T k x + m * c
  | 0, _, _ => rfl
  | k + 1, x, m => by
    show itr T k (T (x + m * c)) = _
    rw [h x m, itr_per h k]
    rfl
/-- x comes back behind m rounds, p repeats on -/
def Back (c : Nat) (T : Int → Int) (m : Nat) (p x : Int) : Prop := itr T m x = x + p * c
theorem Back.on {c : Nat} {T : Int → Int} (hp : Per1 c T) {m : Nat} {p x : Int} (h : Back c T m p x) (k : Nat) : Back c T m p (itr T k x) := by
  show itr T m (itr T k x) = _
  rw [← itr_add, Nat.add_comm, itr_add, h, itr_per hp]
theorem Back.shift {c : Nat} {T : Int → Int} (hp : Per1 c T) {m : Nat} {p x : Int} (h : Back c T m p x) (k : Int) : Back c T m p (x + k * c) := by
  show itr T m (x + k * c) = _
  rw [itr_per hp, h]
  omega
theorem Back.times {c : Nat} {T : Int → Int} (hp : Per1 c T) {m : Nat} {p x : Int} (h : Back c T m p x) : ∀ n : Nat, Back c T (n * m) (n * p) x
  | 0 => by
    show itr T (0 * m) x = x + (0 : Nat) * p * c
    rw [Nat.zero_mul, Int.natCast_zero, Int.zero_mul, Int.zero_mul, Int.add_zero]
    rfl
  | n + 1 => by
    have ih := h.times hp n
    show itr T ((n + 1) * m) x = x + ((n + 1 : Nat) : Int) * p * c
    rw [Nat.succ_mul, itr_add, ih, itr_per hp, h]
    have : ((n + 1 : Nat) : Int) * p * c = (n : Int) * p * c + p * c := by rw [Int.natCast_add, Int.natCast_one, Int.add_mul, Int.one_mul, Int.add_mul]
    omega
/-- all come back by the same number -/
theorem Back.uniq {c : Nat} {T : Int → Int} (c1 : 1 ≤ c) (hp : Per1 c T) (hm : Mono T) {m n : Nat} {p q x y : Int} (h1 : Back c T m p x) (h2 : Back c T n q y) : p * n ≤ q * m := by
  refine Classical.byContradiction fun z => ?_
  -- behind N * m * n rounds x is far ahead of y
  obtain ⟨k, hk⟩ : ∃ k : Int, x ≤ y + k * c := ⟨x - y + (if x - y < 0 then -(x - y) else 0), by
    split
    · rw [show x - y + -(x - y) = 0 by omega, Int.zero_mul]; omega
    · have := mul_mono (a := x - y + 0) (by omega) (show (1 : Int) ≤ c by omega)
      rw [Int.mul_comm (x - y + 0) (c : Int)]
      omega⟩
  obtain ⟨N, hN⟩ : ∃ N : Nat, y - x + k * c < (N : Int) := ⟨(y - x + k * c).toNat + 1, by omega⟩
  have e1 := (h1.times hp (N * n))
  have e2 := (h2.times hp (N * m))
  have e1' : itr T (N * n * m) x = x + ((N * n : Nat) : Int) * p * c := e1
  have e2' : itr T (N * m * n) y = y + ((N * m : Nat) : Int) * q * c := e2
  have e3 : N * m * n = N * n * m := by rw [Nat.mul_assoc, Nat.mul_comm m n, ← Nat.mul_assoc]
  rw [e3] at e2'
  have l := itr_mono hm (N * n * m) x (y + k * c) hk
  rw [itr_per hp, e1', e2'] at l
  have a1 : ((N * n : Nat) : Int) * p * c = (p * n) * ((N : Int) * c) := by rw [Int.natCast_mul, Int.mul_assoc (N : Int) n p, Int.mul_comm (n : Int) p, Int.mul_comm (N : Int) (p * n), Int.mul_assoc]
  have a2 : ((N * m : Nat) : Int) * q * c = (q * m) * ((N : Int) * c) := by rw [Int.natCast_mul, Int.mul_assoc (N : Int) m q, Int.mul_comm (m : Int) q, Int.mul_comm (N : Int) (q * m), Int.mul_assoc]
  rw [a1, a2] at l
  have Nc : (N : Int) ≤ (N : Int) * c := by
    have := Int.mul_le_mul_of_nonneg_left (show (1 : Int) ≤ c by omega) (show (0 : Int) ≤ N by omega)
    rw [Int.mul_one] at this
    exact this
  have s := mul_mono (a := (N : Int) * c) (by omega) (show q * m + 1 ≤ p * n by omega)
  rw [Int.add_mul, Int.one_mul] at s
  omega
/-- the least number of rounds -/
def Least (c : Nat) (T : Int → Int) (m : Nat) (x : Int) : Prop := 0 < m ∧ ∀ k, 0 < k → k < m → ∀ q : Int, ¬ Back c T k q x
theorem Back.cop {c : Nat} {T : Int → Int} (hp : Per1 c T) (hm : Mono T) {m : Nat} {p x : Int} (h : Back c T m p x) (lm : Least c T m x) {d n : Nat} {q : Int} (d0 : 0 < d) (em : m = d * n) (ep : p = d * q) : d = 1 := by
  have n0 : 0 < n := by
    rcases Nat.eq_zero_or_pos n with e | e
    · rw [e, Nat.mul_zero] at em
      have := lm.1
      omega
    · exact e
  -- the map of n rounds, q repeats back
  have sp : ∀ y : Int, itr T n (y + q * c) = itr T n y + q * c := fun y => itr_per hp n y q
  have up : itr T n x > x + q * c → ∀ k : Nat, 0 < k → itr T (k * n) x > x + (k : Int) * q * c := fun g k => by
    induction k with
    | zero => exact fun z => absurd z (by decide)
    | succ k ih =>
      intro _
      rcases Nat.eq_zero_or_pos k with e | e
      · subst e
        rw [Nat.zero_add, Nat.one_mul, Int.natCast_one, Int.one_mul]
        exact g
      · have i := ih e
        have l := itr_mono hm n (x + (k : Int) * q * c) _ (Int.le_of_lt i)
        rw [itr_per hp n x ((k : Int) * q)] at l
        rw [Nat.succ_mul, itr_add, Int.natCast_add, Int.natCast_one, Int.add_mul, Int.one_mul, Int.add_mul]
        omega
  have dn : itr T n x < x + q * c → ∀ k : Nat, 0 < k → itr T (k * n) x < x + (k : Int) * q * c := fun g k => by
    induction k with
    | zero => exact fun z => absurd z (by decide)
    | succ k ih =>
      intro _
      rcases Nat.eq_zero_or_pos k with e | e
      · subst e
        rw [Nat.zero_add, Nat.one_mul, Int.natCast_one, Int.one_mul]
        exact g
      · have i := ih e
        have l := itr_mono hm n _ (x + (k : Int) * q * c) (Int.le_of_lt i)
        rw [itr_per hp n x ((k : Int) * q)] at l
        rw [Nat.succ_mul, itr_add, Int.natCast_add, Int.natCast_one, Int.add_mul, Int.one_mul, Int.add_mul]
        omega
  have hb : itr T (d * n) x = x + (d : Int) * q * c := by
    rw [← em, ← ep]
    exact h
  have bn : Back c T n q x := by
    rcases Int.lt_trichotomy (itr T n x) (x + q * c) with g | g | g
    · have := dn g d d0
      omega
    · exact g
    · have := up g d d0
      omega
  refine Classical.byContradiction fun d1 => lm.2 n n0 ?_ q bn
  rw [em]
  have : 2 * n ≤ d * n := Nat.mul_le_mul_right n (by omega)
  omega
theorem cop_nat {c : Nat} {T : Int → Int} (hp : Per1 c T) (hm : Mono T) {m : Nat} {p x : Int} (h : Back c T m p x) (lm : Least c T m x) : Nat.Coprime p.natAbs m := by
  have d1 : Nat.gcd p.natAbs m ∣ p.natAbs := Nat.gcd_dvd_left _ _
  have d2 : Nat.gcd p.natAbs m ∣ m := Nat.gcd_dvd_right _ _
  have d0 : 0 < Nat.gcd p.natAbs m := Nat.gcd_pos_of_pos_right _ lm.1
  obtain ⟨n, en⟩ := d2
  obtain ⟨q, eq⟩ := Int.ofNat_dvd_left.mpr d1
  exact h.cop hp hm lm d0 en eq
/-- two that come back, each the first time: by the same rounds and repeats -/
theorem Back.same {c : Nat} {T : Int → Int} (c1 : 1 ≤ c) (hp : Per1 c T) (hm : Mono T) {m n : Nat} {p q x y : Int} (h1 : Back c T m p x) (h2 : Back c T n q y) (m0 : 0 < m) (n0 : 0 < n) (k1 : Nat.Coprime p.natAbs m) (k2 : Nat.Coprime q.natAbs n) : m = n ∧ p = q := by
  have e : p * n = q * m := Int.le_antisymm (h1.uniq c1 hp hm h2) (h2.uniq c1 hp hm h1)
  have ea : p.natAbs * n = q.natAbs * m := by
    have := congrArg Int.natAbs e
    rwa [Int.natAbs_mul, Int.natAbs_mul, Int.natAbs_natCast, Int.natAbs_natCast] at this
  have d1 : m ∣ n := k1.symm.dvd_of_dvd_mul_left ⟨q.natAbs, by rw [ea, Nat.mul_comm]⟩
  have d2 : n ∣ m := k2.symm.dvd_of_dvd_mul_left ⟨p.natAbs, by rw [← ea, Nat.mul_comm]⟩
  obtain rfl := Nat.dvd_antisymm d1 d2
  exact ⟨rfl, Int.eq_of_mul_eq_mul_right (by omega) e⟩
end MZ
/-! A round comes back: where it has to. -/
namespace MZ
open PySem PySem.Spec PyProof.Rows L2 LK MY
theorem mod_eq_back {c : Nat} (c1 : 1 ≤ c) {x y : Int} (h : x % (c : Int) = y % (c : Int)) : x = y + (x / (c : Int) - y / (c : Int)) * c := by
  have e1 := Int.mul_ediv_add_emod x (c : Int)
  have e2 := Int.mul_ediv_add_emod y (c : Int)
  rw [Int.sub_mul, Int.mul_comm (x / (c : Int)), Int.mul_comm (y / (c : Int))]
  omega
theorem mod_back {c : Nat} {x y p : Int} (h : x = y + p * c) : x % (c : Int) = y % (c : Int) := by
  rw [h, Int.add_mul_emod_self_right]
/-- in c rounds a place is met again -/
theorem ring_met {c : Nat} (c1 : 1 ≤ c) (T : Int → Int) (x : Int) : ∃ a b, a < b ∧ b ≤ c ∧ itr T a x % (c : Int) = itr T b x % (c : Int) := by
  refine Classical.byContradiction fun z => ?_
  have nd : ((List.range (c + 1)).map fun k => (itr T k x % (c : Int)).toNat).Nodup := by
    refine List.pairwise_map.mpr (List.pairwise_iff_getElem.mpr fun i j hi hj lt => ?_)
    rw [List.getElem_range, List.getElem_range]
    rw [List.length_range] at hi hj
    intro e
    have n1 := Int.emod_nonneg (itr T i x) (show (c : Int) ≠ 0 by omega)
    have n2 := Int.emod_nonneg (itr T j x) (show (c : Int) ≠ 0 by omega)
    exact z ⟨i, j, lt, by omega, by omega⟩
  have := sub_len _ (List.range c) nd fun q m => by
    obtain ⟨k, _, rfl⟩ := List.mem_map.mp m
    have n1 := Int.emod_nonneg (itr T k x) (show (c : Int) ≠ 0 by omega)
    have n2 := Int.emod_lt_of_pos (itr T k x) (show (0 : Int) < c by omega)
    exact List.mem_range.mpr (by omega)
  rw [List.length_map, List.length_range, List.length_range] at this
  omega
/-- whoever has gone c rounds comes back -/
theorem ring_back {c : Nat} (c1 : 1 ≤ c) {T : Int → Int} (hp : Per1 c T) (x : Int) {k : Nat} (hk : c ≤ k) : ∃ m p, 0 < m ∧ m ≤ c ∧ Back c T m p (itr T k x) := by
  obtain ⟨a, b, lt, le, e⟩ := ring_met c1 T x
  have h := mod_eq_back c1 e.symm
  generalize itr T b x / (c : Int) - itr T a x / (c : Int) = p at h
  have bk : Back c T (b - a) p (itr T a x) := by
    show itr T (b - a) (itr T a x) = _
    rw [← itr_add, show a + (b - a) = b by omega]
    exact h
  refine ⟨b - a, p, by omega, by omega, ?_⟩
  have := bk.on hp (k - a)
  rw [← itr_add, show a + (k - a) = k by omega] at this
  exact this
theorem least_of {c : Nat} {T : Int → Int} {x : Int} : ∀ (m : Nat) (p : Int), 0 < m → Back c T m p x → ∃ n q, n ≤ m ∧ Back c T n q x ∧ Least c T n x := fun m => by
  induction m using Nat.strongRecOn with
  | ind m ih =>
    intro p m0 h
    by_cases z : ∃ k, 0 < k ∧ k < m ∧ ∃ q : Int, Back c T k q x
    · obtain ⟨k, k0, km, q, hq⟩ := z
      obtain ⟨n, q', nm, h1, h2⟩ := ih k km q k0 hq
      exact ⟨n, q', by omega, h1, h2⟩
    · exact ⟨m, p, Nat.le_refl _, h, m0, fun k k0 km q hq => z ⟨k, k0, km, q, hq⟩⟩
/-- how far a round turns: p repeats in m rounds, in lowest terms -/
def Turn (c : Nat) (T : Int → Int) (p : Int) (m : Nat) : Prop := 0 < m ∧ Nat.Coprime p.natAbs m ∧ ∃ x, Back c T m p x
theorem turn_of {c : Nat} {T : Int → Int} (hp : Per1 c T) (hm : Mono T) {m : Nat} {p x : Int} (h : Back c T m p x) (lm : Least c T m x) : Turn c T p m := ⟨lm.1, cop_nat hp hm h lm, x, h⟩
theorem Turn.same {c : Nat} {T : Int → Int} (c1 : 1 ≤ c) (hp : Per1 c T) (hm : Mono T) {m n : Nat} {p q : Int} (h1 : Turn c T p m) (h2 : Turn c T q n) : m = n ∧ p = q := by
  obtain ⟨m0, k1, x, b1⟩ := h1
  obtain ⟨n0, k2, y, b2⟩ := h2
  exact b1.same c1 hp hm b2 m0 n0 k1 k2
/-- behind c rounds every place turns so -/
theorem Turn.all {c : Nat} {T : Int → Int} (c1 : 1 ≤ c) (hp : Per1 c T) (hm : Mono T) {m : Nat} {p : Int} (h : Turn c T p m) (x : Int) {k : Nat} (hk : c ≤ k) : Back c T m p (itr T k x) := by
  obtain ⟨n, q, n0, _, b⟩ := ring_back c1 hp x hk
  obtain ⟨n', q', _, b', l'⟩ := least_of n q n0 b
  obtain ⟨rfl, rfl⟩ := h.same c1 hp hm (turn_of hp hm b' l')
  exact b'
/-- a divisor of both is 1 -/
theorem Turn.one {c : Nat} {T : Int → Int} {m : Nat} {p : Int} (h : Turn c T p m) {k : Nat} (h1 : p % (k : Int) = 0) (h2 : m % k = 0) : k = 1 := by
  have d1 : k ∣ p.natAbs := Int.ofNat_dvd_left.mp (Int.dvd_of_emod_eq_zero h1)
  have d2 : k ∣ m := Nat.dvd_of_mod_eq_zero h2
  have := Nat.dvd_gcd d1 d2
  rw [h.2.1] at this
  exact Nat.dvd_one.mp this
/-- the round of another row -/
theorem Turn.row {n : Nat} {st : Nat → Int → Int} {up : Bool} {c : Nat → Nat} (hper : Per n st up c) {i k : Nat} (il : i < n) {p : Int} {m : Nat} (h : Turn (c i) (fun y => walkD n st up n i y) p m) : Turn (c (rowD n up k i)) (fun y => walkD n st up n (rowD n up k i) y) p m := by
  obtain ⟨m0, k1, x, b⟩ := h
  have jl := rowD_lt up k i il
  refine ⟨m0, k1, walkD n st up k i x, ?_⟩
  have com : ∀ (l : Nat) (y : Int), itr (fun y => walkD n st up n (rowD n up k i) y) l (walkD n st up k i y) = walkD n st up k i (itr (fun y => walkD n st up n i y) l y) := fun l y => by
    rw [← (walkD_round (st := st) il l y).1, ← (walkD_round (st := st) jl l _).1, ← walkD_add, Nat.add_comm k, walkD_add, (walkD_round (st := st) il l y).2]
  show itr _ m (walkD n st up k i x) = _
  rw [com, b, walkD_per hper k i x p il]
theorem lEnd_mono {size : Nat} {rs : List Rw} (h : OkCh size rs) (k : Nat) : ∀ (j i : Nat) (x y : Int), j = k → i < rs.length → x ≤ y → walkD rs.length (lEnd size rs) false k i x ≤ walkD rs.length (lEnd size rs) false k i y := by
  induction k with
  | zero => exact fun _ _ _ _ _ _ l => l
  | succ k ih => exact fun _ i x y _ il l => ih k _ _ _ rfl (nxR_lt (by omega) false i) ((h.sp il).lmono l)
theorem rEnd_mono {size : Nat} {rs : List Rw} (h : OkCh size rs) (k : Nat) : ∀ (j i : Nat) (x y : Int), j = k → i < rs.length → x ≤ y → walkD rs.length (rEnd size rs) false k i x ≤ walkD rs.length (rEnd size rs) false k i y := by
  induction k with
  | zero => exact fun _ _ _ _ _ _ l => l
  | succ k ih => exact fun _ i x y _ il l => ih k _ _ _ rfl (nxR_lt (by omega) false i) ((h.sp il).rmono l)
/-- where nothing runs, nothing runs further below -/
theorem none_on {size : Nat} {rs : List Rw} (h : OkCh size rs) : ∀ (k i : Nat) (x y : Int), i < rs.length → y < x → walkD rs.length (rEnd size rs) false k i y < walkD rs.length (lEnd size rs) false k i x
  | 0, _, _, _, _, l => l
  | k + 1, i, x, y, il, l => by
    refine none_on h k _ _ _ (nxR_lt (by omega) false i) ?_
    have g : rEnd size rs i (x - 1) < lEnd size rs i (x - 1 + 1) := (h.sp il).gap (x - 1)
    rw [Int.sub_add_cancel] at g
    have := (h.sp il).rmono (show y ≤ x - 1 by omega)
    exact Int.lt_of_le_of_lt this g
/-- a stretch grows by at most a repeat from row to row -/
theorem SpOk.wid {L : List Spn} {off a b : Nat} (S : SpOk L off a b) {x y l : Int} (h : y - x ≤ l * b) (l0 : 0 ≤ l) : rE L a b y - lE L a b x ≤ (l + 1) * a := by
  obtain ⟨q, m, k, e, h1⟩ := S.lmem x
  obtain ⟨p, mp, j, ep, h2⟩ := S.rmem y
  have q1 := S.ok q m
  have p1 := S.ok p mp
  have jk : j - k ≤ l := by
    refine Classical.byContradiction fun z => ?_
    have := mul_mono (a := (b : Int)) (by omega) (show l + 1 ≤ j - k by omega)
    rw [Int.add_mul, Int.one_mul, Int.sub_mul] at this
    omega
  have := mul_mono (a := (a : Int)) (by omega) jk
  rw [Int.sub_mul] at this
  rw [Int.add_mul, Int.one_mul, e, ep]
  omega
end MZ
/-! _law_fall -/
namespace S8
open PySem PySem.Spec PyProof.Rows L2 LK MXi MY MZ
/-- where a stretch lies n rows below -/
def fallD (r : Nat) (lo hi : Int) : PyData := if lo ≤ hi then .tuple [.int (r : Int), .int lo, .int hi] else .none
def spFal (K : PySem.W.Frag) : Sp := fun vs H Q _ => ∃ (t Ld : Addr) (xs : List V) (i : Nat) (we ea : Int) (n size : Nat) (rs : List Rw), vs = [.ref t, .int i, .int we, .int ea, .int n] ∧ Plan K H t Ld xs size rs ∧ OkCh size rs ∧ i < rs.length ∧ (∀ z ∈ cnts size rs, z ≤ 8) ∧ n ≤ 40 ∧ we ≤ ea ∧ ea ≤ we + 40 ∧
  ∀ (v : V) (H' : Hp), Same H H' → Dp K H' v (fallD (rowD rs.length false n i) (walkD rs.length (lEnd size rs) false n i we) (walkD rs.length (rEnd size rs) false n i ea)) → Q v H'
section
variable {P : Program} {w : World} {K : PySem.W.Frag} {mg : Str → Option Value} {base : Heap}
abbrev sFal : Stmt := top 50
theorem scFal : FnScope ["plan", "at", "west", "east", "deep", "turn_v", "here"] ["plan", "at", "west", "east", "deep"] (defScope sFal) := ⟨rfl, rfl, rfl, by decide +kernel, rfl, by decide +kernel, by decide +kernel⟩
theorem ok_Fal {f : Addr} {fd : FuncData} (F : Fun K "_law_fall" "_law_fall" sFal f fd) (B : Bl mg)
    {f__law_dip : Addr} {d__law_dip : FuncData} (G__law_dip : FnOk P w K mg base CX0 2 f__law_dip d__law_dip ["plan", "at", "west", "east"] (spDip K)) (g__law_dip : mg "_law_dip" = some (.ref f__law_dip)) (k__law_dip : PySem.W.keepIn K (.ref f__law_dip) = true) (b__law_dip : Binds K d__law_dip ["plan", "at", "west", "east"] []) : FnOk P w K mg base CX0 3 f fd ["plan", "at", "west", "east", "deep"] (spFal K) := by
  refine F.ok scFal (fun vs H Q E h => ?_) (fun cdv A outer s H vs Q E hr h => ?_)
  · obtain ⟨t, Ld, xs, i, we, ea, n, size, rs, rfl, _⟩ := h
    rfl
  · obtain ⟨t, Ld, xs, i, we, ea, n, size, rs, rfl, pl, ok, il, c8, n40, w0, w1, k⟩ := h
    refine ⟨_, pss_cons (ps_for PassesOwn.never rfl (pi_range1 (by rfl) (B "range" (by decide)) (pa_cons (pv 4) pa_nil)) (pg_name (i := 5) scFal.nd rfl (Or.inl rfl)) (pss_cons (ps_set (i := 6) scFal.nd rfl (Or.inl rfl) (pe_call (E := E0) G__law_dip (hr.mono (by decide)) rfl g__law_dip k__law_dip b__law_dip .nil pass0 (pa_cons (pv 0) (pa_cons (pv 1) (pa_cons (pv 2) (pa_cons (pv 3) pa_nil))))))
      (pss_cons (ps_if (pt_cmpR op_isN (pv 6) pe_non (nomark _)) (pss_one (ps_ret pe_non)) pss_nil)
      (pss_cons (ps_asg (pv 6) (pg_tup rfl (pgs_cons (pg_name (i := 2) scFal.nd rfl (Or.inl rfl)) (pgs_cons (pg_name (i := 3) scFal.nd rfl (Or.inl rfl)) pgs_nil))))
      (pss_one (ps_set (i := 1) scFal.nd rfl (Or.inl rfl) (pe_op op_mod (pe_callTy call_int1 (by rfl) (B "int" (by decide)) (by decide +kernel) (pa_cons (pe_op op_sub (pv 1) pe_int) pa_nil)) (pe_callB call_len_seq (by rfl) (B "len" (by decide)) (by decide +kernel) (pa_cons (pe_ix (ixt (K := K)) (pv 0) pe_int (fun _ _ => rfl)) pa_nil)))))))))
      (pss_one (ps_ret (pe_tup (pa_cons (pv 1) (pa_cons (pv 2) (pa_cons (pv 3) pa_nil)))))), ?_⟩
    dsimp only [tSeq]
    have ty2 : sizeLine = 16777216 := sizeLine_eq
    have rl := ok.rl
    have xl := dps_len pl.dL
    rw [List.length_map] at xl
    have c9 : ∀ j, cn size rs j ≤ 8 := fun j => by
      unfold cn
      cases e : (cnts size rs)[j]? with
      | none => exact (by decide : 1 ≤ 8)
      | some a => exact c8 a (List.mem_of_getElem? e)
    refine stR (fun σ Hn => ∃ (o5 o6 : Option V), σ = [some (.ref t), some (.int ((rowD rs.length false n i : Nat) : Int)), some (.int (walkD rs.length (lEnd size rs) false n i we)), some (.int (walkD rs.length (rEnd size rs) false n i ea)), some (.int (n : Int)), o5, o6] ∧ Same H Hn ∧ walkD rs.length (lEnd size rs) false n i we ≤ walkD rs.length (rEnd size rs) false n i ea) (fun D' ret aft => ?_) ?_
    · refine ⟨_, rfl, (n : Int), rfl, by omega, by omega, ?_⟩
      rw [Int.toNat_natCast]
      refine for_range (lo := 0) (n := n) (fun j σ Hn => ∃ (o5 o6 : Option V), σ = [some (.ref t), some (.int ((rowD rs.length false j i : Nat) : Int)), some (.int (walkD rs.length (lEnd size rs) false j i we)), some (.int (walkD rs.length (rEnd size rs) false j i ea)), some (.int (n : Int)), o5, o6] ∧ Same H Hn ∧ walkD rs.length (lEnd size rs) false j i we ≤ walkD rs.length (rEnd size rs) false j i ea ∧ walkD rs.length (rEnd size rs) false j i ea - walkD rs.length (lEnd size rs) false j i we ≤ (40 + (j : Int)) * (cn size rs (rowD rs.length false j i + 1) : Int))
        ⟨_, _, rfl, Same.refl _, w0, ?_⟩ (fun j σ Hn hj hI => ?_) (fun σ Hn hI => ?_)
      · have b1 := (ok.cn1 (i + 1)).1
        have := mul_mono (a := 40) (by decide) (show (1 : Int) ≤ (cn size rs (i + 1) : Int) by omega)
        show ea - we ≤ (40 + ((0 : Nat) : Int)) * (cn size rs (i + 1) : Int)
        rw [Int.natCast_zero, Int.add_zero, Int.mul_comm]
        omega
      · obtain ⟨o5, o6, rfl, s, le, wd⟩ := hI
        have jl := rowD_lt (n := rs.length) false j i il
        have l1 : walkD rs.length (lEnd size rs) false (j + 1) i we = lEnd size rs (rowD rs.length false j i) (walkD rs.length (lEnd size rs) false j i we) := walkD_add j 1 i we
        have r1 : walkD rs.length (rEnd size rs) false (j + 1) i ea = rEnd size rs (rowD rs.length false j i) (walkD rs.length (rEnd size rs) false j i ea) := walkD_add j 1 i ea
        have a1 : rowD rs.length false (j + 1) i = nxR rs.length false (rowD rs.length false j i) := rowD_add j 1 i
        obtain ⟨r, hr'⟩ : ∃ r, rowD rs.length false j i = r := ⟨_, rfl⟩
        obtain ⟨lo, hlo⟩ : ∃ lo, walkD rs.length (lEnd size rs) false j i we = lo := ⟨_, rfl⟩
        obtain ⟨hi, hhi⟩ : ∃ hi, walkD rs.length (rEnd size rs) false j i ea = hi := ⟨_, rfl⟩
        rw [hr'] at l1 r1 a1 jl wd ⊢
        rw [hlo] at l1 le wd ⊢
        rw [hhi] at r1 le wd ⊢
        have cr8 := c9 (r + 1)
        have wd8 : hi - lo ≤ 80 * 8 := by
          have m1 := Int.mul_le_mul_of_nonneg_left (show (cn size rs (r + 1) : Int) ≤ 8 by omega) (show (0 : Int) ≤ 40 + (j : Int) by omega)
          have m2 := mul_mono (a := 8) (by decide) (show 40 + (j : Int) ≤ 80 by omega)
          omega
        have pln := pl.same s
        dsimp only [gName, List.set, tSeq]
        refine ⟨_, rfl, _, rfl, _, rfl, _, rfl, t, Ld, xs, r, lo, hi, size, rs, rfl, pln, ok, jl, by omega, fun v H2 s2 dv => ?_⟩
        dsimp only [gName, List.set, tSeq]
        unfold endsD at dv
        by_cases lh : lEnd size rs r lo ≤ rEnd size rs r hi
        · rw [if_pos lh] at dv
          obtain ⟨p, rfl, hp⟩ := dp_pair dv
          refine ⟨_, rfl, rfl, _, rfl, LK.ifF (decide_eq_false fun z => nomatch z) ?_⟩
          dsimp only [tNext, tSeq]
          refine ⟨_, rfl, p, _, rfl, hp, rfl, ?_⟩
          refine ⟨_, _, rfl, _, _, rfl, rfl, ?_⟩
          dsimp only [gName, gCons, gNil, List.set, tSeq]
          have pl2 := pln.same s2
          refine ⟨_, rfl, _, _, rfl, rfl, .inl ⟨_, rfl, ?_⟩⟩
          refine ⟨_, rfl, t, _, 1, _, rfl, rfl, SqT.of pl2.et, atI_nat (j := 1) rfl, Ld, _, rfl, .inl (SqL.of pl2.eL), _, _, rfl, rfl, by show (0 : Int) < (xs.length : Int); omega, ?_⟩
          rw [xl]
          have e2 : ((r : Int) - 1) % (rs.length : Int) = ((nxR rs.length false r : Nat) : Int) := by
            unfold nxR
            rw [if_neg (by decide), Int.natCast_emod, ← Int.add_emod_right]
            congr 1
            omega
          refine ⟨some (.int (0 + (j : Int))), some (.ref p), ?_, s.trans s2, ?_, ?_⟩
          · rw [l1, r1, a1, ← e2]
            rfl
          · rw [l1, r1]
            exact lh
          · rw [l1, r1, a1]
            have w2 := (ok.sp jl).wid (x := lo) (y := hi) (l := 40 + (j : Int)) wd (by omega)
            have e5 : cn size rs (nxR rs.length false r + 1) = cn size rs r := by
              unfold nxR
              rw [if_neg (by decide)]
              by_cases z : r = 0
              · subst z
                rw [show 0 + rs.length - 1 = rs.length - 1 by omega, Nat.mod_eq_of_lt (show rs.length - 1 < rs.length by omega), show rs.length - 1 + 1 = rs.length by omega, ok.wrap.1, ok.wrap.2]
              · rw [show r + rs.length - 1 = (r - 1) + rs.length by omega, Nat.add_mod_right, Nat.mod_eq_of_lt (show r - 1 < rs.length by omega), show r - 1 + 1 = r by omega]
            rw [e5, show (40 + ((j + 1 : Nat) : Int)) = 40 + (j : Int) + 1 by omega]
            exact w2
        · rw [if_neg lh] at dv
          cases dv
          refine ⟨_, rfl, rfl, _, rfl, LK.ifT rfl ?_⟩
          refine ret _ _ (k _ _ (s.trans s2) ?_)
          have nn := none_on ok (n - (j + 1)) (nxR rs.length false r) (lEnd size rs r lo) (rEnd size rs r hi) (nxR_lt (by omega) false r) (by omega)
          have e3 : walkD rs.length (lEnd size rs) false n i we = walkD rs.length (lEnd size rs) false (n - (j + 1)) (nxR rs.length false r) (lEnd size rs r lo) := by
            rw [← l1, ← a1, ← walkD_add, show j + 1 + (n - (j + 1)) = n by omega]
          have e4 : walkD rs.length (rEnd size rs) false n i ea = walkD rs.length (rEnd size rs) false (n - (j + 1)) (nxR rs.length false r) (rEnd size rs r hi) := by
            rw [← r1, ← a1, ← walkD_add, show j + 1 + (n - (j + 1)) = n by omega]
          unfold fallD
          rw [e3, e4, if_neg (by omega)]
          exact .non
      · obtain ⟨o5, o6, rfl, s, le, _⟩ := hI
        exact aft _ _ ⟨_, _, rfl, s, le⟩
    rintro σ Hn ⟨o5, o6, rfl, s, le⟩
    refine ⟨_, rfl, _, rfl, _, rfl, by show 3 ≤ sizeLine; decide, fun d nd => ?_⟩
    refine k _ _ (s.trans (same_new nd)) ?_
    unfold fallD
    rw [if_pos le]
    exact .tup (SqT.of upd_same) (.cons (.int _) (.cons (.int _) (.cons (.int _) .nil)))
end
end S8
/-! _law_turn -/
namespace S8
open PySem PySem.Spec PyProof.Rows L2 LK MXi MY MZ
theorem valV_at {kvs : List (Key × V)} {k : Key} {v : V} (h : valV kvs k = some v) : ∃ a, a < kvs.length ∧ kvs[a]? = some (k, v) := by
  unfold valV at h
  obtain ⟨p, hp, rfl⟩ := Option.map_eq_some_iff.mp h
  have e0 := List.find?_some hp
  have e := of_decide_eq_true e0
  obtain ⟨a, ha⟩ := List.getElem?_of_mem (List.mem_of_find?_eq_some hp)
  refine ⟨a, (List.getElem?_eq_some_iff.mp ha).1, ?_⟩
  rw [ha, ← e]
theorem valV_no {kvs : List (Key × V)} {k k' : Key} {v : V} {a : Nat} (h : valV kvs k = none) (e : kvs[a]? = some (k', v)) (q : k = k') : False := by
  subst q
  unfold valV at h
  have := List.find?_eq_none.mp (Option.map_eq_none_iff.mp h) _ (List.mem_of_getElem? e)
  exact this (decide_eq_true rfl)
theorem putK_new {kvs : List (Key × V)} {k : Key} {v : V} (h : valV kvs k = none) : putK kvs k v = kvs ++ [(k, v)] := by
  unfold putK
  rw [valV_any, h]
  rfl
def spLtn (K : PySem.W.Frag) : Sp := fun vs H Q _ => ∃ (t Ld : Addr) (xs : List V) (side size : Nat) (rs : List Rw) (st : Nat → List Rw → Nat → Int → Int), vs = [.ref t, .int side] ∧ Plan K H t Ld xs size rs ∧ OkCh size rs ∧ ((side = 0 ∧ st = lEnd) ∨ (side = 1 ∧ st = rEnd)) ∧
  ∀ (d : Addr) (H' : Hp) (p : Int) (m : Nat), Same H H' → Turn (cn size rs (0 + 1)) (fun y => walkD rs.length (st size rs) false rs.length 0 y) p m → H' d = some (.tup [.int p, .int m]) → Q (.ref d) H'
section
variable {P : Program} {w : World} {K : PySem.W.Frag} {mg : Str → Option Value} {base : Heap}
abbrev sLtn : Stmt := top 48
theorem scLtn : FnScope ["plan", "side", "high", "count", "mark", "seen", "lap", "turn_v", "k", "spot", "old", "moved", "laps", "part"] ["plan", "side"] (defScope sLtn) := ⟨rfl, rfl, rfl, by decide +kernel, rfl, by decide +kernel, by decide +kernel⟩
theorem ok_Ltn {f : Addr} {fd : FuncData} (F : Fun K "_law_turn" "_law_turn" sLtn f fd) (B : Bl mg)
    {f__law_sums : Addr} {d__law_sums : FuncData} (G__law_sums : FnOk P w K mg base CX0 1 f__law_sums d__law_sums ["plan"] (spSum K)) (g__law_sums : mg "_law_sums" = some (.ref f__law_sums)) (k__law_sums : PySem.W.keepIn K (.ref f__law_sums) = true) (b__law_sums : Binds K d__law_sums ["plan"] [])
    {f__law_low : Addr} {d__law_low : FuncData} (G__law_low : FnOk P w K mg base CX0 2 f__law_low d__law_low ["plan", "at", "mark"] (spLaE K lEnd)) (g__law_low : mg "_law_low" = some (.ref f__law_low)) (k__law_low : PySem.W.keepIn K (.ref f__law_low) = true) (b__law_low : Binds K d__law_low ["plan", "at", "mark"] [])
    {f__law_high : Addr} {d__law_high : FuncData} (G__law_high : FnOk P w K mg base CX0 2 f__law_high d__law_high ["plan", "at", "mark"] (spLaE K rEnd)) (g__law_high : mg "_law_high" = some (.ref f__law_high)) (k__law_high : PySem.W.keepIn K (.ref f__law_high) = true) (b__law_high : Binds K d__law_high ["plan", "at", "mark"] []) : FnOk P w K mg base CX0 3 f fd ["plan", "side"] (spLtn K) := by
  refine F.ok scLtn (fun vs H Q E h => ?_) (fun cdv A outer s H vs Q E hr h => ?_)
  · obtain ⟨t, Ld, xs, side, size, rs, st, rfl, _⟩ := h
    rfl
  · obtain ⟨t, Ld, xs, side, size, rs, st, rfl, pl, ok, hst, k⟩ := h
    refine ⟨_, pss_cons (ps_asg (pe_tup (pa_cons (pe_callB call_len_seq (by rfl) (B "len" (by decide)) (by decide +kernel) (pa_cons (pe_ix (ixt (K := K)) (pv 0) pe_int (fun _ _ => rfl)) pa_nil)) (pa_cons (pe_ix ix_list (pe_call (E := E0) G__law_sums (hr.mono (by decide)) rfl g__law_sums k__law_sums b__law_sums .nil pass0 (pa_cons (pv 0) pa_nil)) pe_int (fun _ _ => rfl)) (pa_cons pe_int (pa_cons pe_dnewK (pa_cons pe_int pa_nil)))))) (pg_tup rfl (pgs_cons (pg_name (i := 2) scLtn.nd rfl (Or.inl rfl)) (pgs_cons (pg_name (i := 3) scLtn.nd rfl (Or.inl rfl)) (pgs_cons (pg_name (i := 4) scLtn.nd rfl (Or.inl rfl)) (pgs_cons (pg_name (i := 5) scLtn.nd rfl (Or.inl rfl)) (pgs_cons (pg_name (i := 6) scLtn.nd rfl (Or.inl rfl)) pgs_nil)))))))
      (pss_cons (ps_for PassesOwn.never rfl (pi_range1 (by rfl) (B "range" (by decide)) (pa_cons (pe_op op_add (pv 3) pe_int) pa_nil)) (pg_name (i := 7) scLtn.nd rfl (Or.inl rfl)) (pss_one (ps_if (pt_cmp (pc_dnotin (hu_of hr) (pe_op op_mod (pe_callTy call_int1 (by rfl) (B "int" (by decide)) (by decide +kernel) (pa_cons (pv 4) pa_nil)) (pv 3)) (pv 5))) (pss_cons (ps_dput (hu_of hr) (pv 5) (pe_op op_mod (pe_callTy call_int1 (by rfl) (B "int" (by decide)) (by decide +kernel) (pa_cons (pv 4) pa_nil)) (pv 3)) (pe_tup (pa_cons (pv 4) (pa_cons (pv 6) pa_nil))) rfl)
      (pss_cons (ps_set (i := 6) scLtn.nd rfl (Or.inl rfl) (pe_op op_add (pv 6) pe_int))
      (pss_one (ps_for PassesOwn.never rfl (pi_range1 (by rfl) (B "range" (by decide)) (pa_cons (pv 2) pa_nil)) (pg_name (i := 8) scLtn.nd rfl (Or.inl rfl)) (pss_cons (ps_set (i := 9) scLtn.nd rfl (Or.inl rfl) (pe_op op_mod (pe_callTy call_int1 (by rfl) (B "int" (by decide)) (by decide +kernel) (pa_cons (pe_op op_sub pe_int (pv 8)) pa_nil)) (pv 2)))
      (pss_one (ps_set (i := 4) scLtn.nd rfl (Or.inl rfl) (pe_ifExp (pt_cmpR op_eq (pv 1) pe_int (nomark _)) (pe_call (E := E0) G__law_low (hr.mono (by decide)) rfl g__law_low k__law_low b__law_low .nil pass0 (pa_cons (pv 0) (pa_cons (pv 9) (pa_cons (pv 4) pa_nil)))) (pe_call (E := E0) G__law_high (hr.mono (by decide)) rfl g__law_high k__law_high b__law_high .nil pass0 (pa_cons (pv 0) (pa_cons (pv 9) (pa_cons (pv 4) pa_nil)))))))))))) pss_nil)))
      (pss_cons (ps_set (i := 10) scLtn.nd rfl (Or.inl rfl) (pe_dget (hu_of hr) (pv 5) (pe_op op_mod (pe_callTy call_int1 (by rfl) (B "int" (by decide)) (by decide +kernel) (pa_cons (pv 4) pa_nil)) (pv 3)) (fun _ _ => rfl)))
      (pss_cons (ps_asg (pe_tup (pa_cons (pe_op op_fdivW (pe_op op_sub (pv 4) (pe_ix (ixt (K := K)) (pv 10) pe_int (fun _ _ => rfl))) (pv 3)) (pa_cons (pe_op op_sub (pv 6) (pe_ix (ixt (K := K)) (pv 10) pe_int (fun _ _ => rfl))) pa_nil))) (pg_tup rfl (pgs_cons (pg_name (i := 11) scLtn.nd rfl (Or.inr rfl)) (pgs_cons (pg_name (i := 12) scLtn.nd rfl (Or.inr rfl)) pgs_nil))))
      (pss_cons (ps_set (i := 13) scLtn.nd rfl (Or.inl rfl) (pe_callB (cr_max rfl) (by rfl) (B "max" (by decide)) (by decide +kernel) (pa_cons (pe_lc (own := [("k", 8)]) (g := gName 8) rfl scLtn.nd (pi_range2 (by rfl) (B "range" (by decide)) (pa_cons pe_int (pa_cons (pe_op op_add (pv 12) pe_int) pa_nil))) (blkOk_by (N := ["plan", "side", "high", "count", "mark", "seen", "lap", "turn_v", "k", "spot", "old", "moved", "laps", "part"]) (sc := defScope sLtn) (by decide +kernel)) (fun _ _ _ _ _ => pg_name (i := 8) scLtn.nd rfl (Or.inl rfl)) (fun _ _ _ _ _ => pts_one (PW.pt (pw_and (pt_cmpR op_eq (pe_op op_mod (pe_callTy call_int1 (by rfl) (B "int" (by decide)) (by decide +kernel) (pa_cons (pv 11) pa_nil)) (pv 8)) pe_int (nomark _)) (pw_and1 (pt_cmpR op_eq (pe_op op_mod (pe_callTy call_int1 (by rfl) (B "int" (by decide)) (by decide +kernel) (pa_cons (pv 12) pa_nil)) (pv 8)) pe_int (nomark _)))))) (fun _ _ _ _ _ => pv 8)) pa_nil)))
      (pss_one (ps_ret (pe_tup (pa_cons (pe_op op_fdivW (pv 11) (pv 13)) (pa_cons (pe_op op_fdivW (pv 12) (pv 13)) pa_nil))))))))), ?_⟩
    have ty2 : sizeLine = 16777216 := sizeLine_eq
    have rl := ok.rl
    have il : 0 < rs.length := by omega
    have xl := dps_len pl.dL
    rw [List.length_map] at xl
    obtain ⟨_, _, _, ec1, ec2⟩ := ok.row il
    have b1 := ok.cn1 (0 + 1)
    have per : Per rs.length (st size rs) false (fun i => cn size rs (i + 1)) := by
      rcases hst with ⟨_, rfl⟩ | ⟨_, rfl⟩
      · exact lEnd_per ok
      · exact rEnd_per ok
    have p1 := round_per per il
    have mono : Mono fun y => walkD rs.length (st size rs) false rs.length 0 y := by
      rcases hst with ⟨_, rfl⟩ | ⟨_, rfl⟩
      · exact fun a b l => lEnd_mono ok _ _ _ _ _ rfl il l
      · exact fun a b l => rEnd_mono ok _ _ _ _ _ rfl il l
    obtain ⟨T, hT⟩ : ∃ T : Int → Int, (fun y => walkD rs.length (st size rs) false rs.length 0 y) = T := ⟨_, rfl⟩
    have hTy : ∀ y, walkD rs.length (st size rs) false rs.length 0 y = T y := fun y => congrFun hT y
    rw [hT] at p1 mono k
    generalize hc : cn size rs (0 + 1) = c at ec2 b1 k
    have p1 : Per1 c T := by rw [← hc]; exact p1
    refine ⟨_, rfl, t, _, 1, _, rfl, rfl, SqT.of pl.et, atI_nat (j := 1) rfl, Ld, _, rfl, .inl (SqL.of pl.eL), ?_⟩
    rw [xl]
    refine ⟨_, rfl, t, Ld, xs, size, rs, rfl, pl, ⟨rl.2, ok.few⟩, fun p H1 np s1 ep => ?_⟩
    refine ⟨p, _, 1, _, rfl, rfl, SqL.of ep, atI_nat (j := 1) (nI_get ec2), ?_⟩
    intro D nD
    have t1 := same_new (o := .dK []) nD
    have eD := upd_same (H := H1) (a := D) (o := .dK [])
    refine ⟨by show 5 ≤ sizeLine; decide, fun q nq => ?_⟩
    have t2 := same_new (o := .tup [.int (rs.length : Int), .int (c : Int), .int 0, .ref D, .int 0]) nq
    have eD2 := t2 _ _ eD
    refine ⟨q, _, rfl, SqT.of upd_same, rfl, ?_⟩
    refine ⟨_, _, rfl, _, _, rfl, _, _, rfl, _, _, rfl, _, _, rfl, rfl, ?_⟩
    have nD0 : H D = none := gone s1 nD
    have s2 := s1.trans (t1.trans t2)
    generalize upd (upd H1 D (.dK [])) q (.tup [.int (rs.length : Int), .int (c : Int), .int 0, .ref D, .int 0]) = H2 at eD2 s2
    dsimp only [gName, gCons, gNil, List.set, tSeq]
    have c0 : (0 : Int) < (c : Int) := by omega
    obtain ⟨res, hres⟩ : ∃ res : Nat → Int, res = fun a => itr T a 0 % (c : Int) := ⟨_, rfl⟩
    have hr2 : ∀ a, itr T a 0 % (c : Int) = res a := fun a => (congrFun hres a).symm
    refine stJ (fun σ Hn => ∃ (l : Nat) (kvs : List (Key × V)) (o7 o8 o9 o10 o11 o12 o13 : Option V), σ = [some (.ref t), some (.int (side : Int)), some (.int (rs.length : Int)), some (.int (c : Int)), some (.int (itr T l 0)), some (.ref D), some (.int (l : Int)), o7, o8, o9, o10, o11, o12, o13] ∧ Same H Hn ∧ Hn D = some (.dK kvs) ∧ kvs.length = l ∧ (∀ a, a < l → ∃ d, kvs[a]? = some (.inl (res a), .ref d) ∧ Hn d = some (.tup [.int (itr T a 0), .int (a : Int)])) ∧ (∀ a b, a < b → b < l → res a ≠ res b) ∧ l ≤ c + 1 ∧ ∃ a, a < l ∧ res a = res l) (fun D' aft => ?_) ?_
    · refine ⟨_, rfl, _, _, rfl, rfl, ((c + 1 : Nat) : Int), rfl, by omega, by omega, ?_⟩
      rw [Int.toNat_natCast]
      refine for_range (lo := 0) (n := c + 1) (fun j σ Hn => ∃ (l : Nat) (kvs : List (Key × V)) (o7 o8 o9 o10 o11 o12 o13 : Option V), σ = [some (.ref t), some (.int (side : Int)), some (.int (rs.length : Int)), some (.int (c : Int)), some (.int (itr T l 0)), some (.ref D), some (.int (l : Int)), o7, o8, o9, o10, o11, o12, o13] ∧ Same H Hn ∧ Hn D = some (.dK kvs) ∧ kvs.length = l ∧ (∀ a, a < l → ∃ d, kvs[a]? = some (.inl (res a), .ref d) ∧ Hn d = some (.tup [.int (itr T a 0), .int (a : Int)])) ∧ (∀ a b, a < b → b < l → res a ≠ res b) ∧ l ≤ j ∧ (l = j ∨ ∃ a, a < l ∧ res a = res l))
        ⟨0, [], _, _, _, _, _, _, _, rfl, s2, eD2, rfl, fun a h => absurd h (Nat.not_lt_zero _), fun a b _ h => absurd h (Nat.not_lt_zero _), Nat.le_refl _, .inl rfl⟩ (fun j σ Hn hj hI => ?_) (fun σ Hn hI => ?_)
      · obtain ⟨l, kvs, o7, o8, o9, o10, o11, o12, o13, rfl, s, eK, kl, ent, dis, lj, alt⟩ := hI
        dsimp only [gName, List.set, tSeq]
        obtain ⟨mk, hmk⟩ : ∃ mk, itr T l 0 = mk := ⟨_, rfl⟩
        have hrl := hr2 l
        rw [hmk] at hrl ⊢
        refine ⟨_, rfl, .inl ⟨_, rfl, _, rfl, _, _, rfl, rfl, by show (0 : Int) < (c : Int); omega, ?_⟩⟩
        refine ⟨_, rfl, D, valV kvs (.inl (mk % (c : Int))), rfl, .inl ⟨kvs, .inl (mk % (c : Int)), .inl eK, rfl, rfl⟩, _, rfl, ?_⟩
        cases hv : valV kvs (.inl (mk % (c : Int))) with
        | some v =>
          refine LK.ifF rfl ?_
          obtain ⟨a, ha, ea⟩ := valV_at hv
          rw [kl] at ha
          obtain ⟨d, ed, _⟩ := ent a ha
          have e1 : res a = res l := by
            rw [← hrl]
            have := ed.symm.trans ea
            exact Sum.inl.inj (Prod.mk.inj (Option.some.inj this)).1
          rw [← hmk]
          exact ⟨l, kvs, _, _, _, _, _, _, _, rfl, s, eK, kl, ent, dis, by omega, .inr ⟨a, ha, e1⟩⟩
        | none =>
          refine LK.ifT rfl ?_
          have lj' : l = j := by
            rcases alt with e | ⟨a, al, ea⟩
            · exact e
            · exfalso
              obtain ⟨d, ed, _⟩ := ent a al
              exact valV_no hv ed (by rw [hrl, ea])
          refine ⟨_, rfl, _, rfl, by show 2 ≤ sizeLine; decide, fun d nd => ?_⟩
          have td := same_new (o := .tup [.int mk, .int (l : Int)]) nd
          have ed := upd_same (H := Hn) (a := d) (o := .tup [.int mk, .int (l : Int)])
          have eK2 := td _ _ eK
          have Dd : D ≠ d := ne_none eK nd
          generalize upd Hn d (.tup [.int mk, .int (l : Int)]) = H3 at td ed eK2
          refine ⟨_, rfl, _, rfl, .inl ⟨_, rfl, _, rfl, _, _, rfl, rfl, by show (0 : Int) < (c : Int); omega, D, _, rfl, .inl ⟨kvs, .inl (mk % (c : Int)), eK2, rfl, by omega, rfl⟩, ?_⟩⟩
          rw [putK_new hv]
          have ed4 : upd H3 D (.dK (kvs ++ [(.inl (mk % (c : Int)), .ref d)])) d = some (.tup [.int mk, .int (l : Int)]) := by rw [upd_ne Dd.symm]; exact ed
          have eK4 := upd_same (H := H3) (a := D) (o := .dK (kvs ++ [(.inl (mk % (c : Int)), .ref d)]))
          have s4 : Same H (upd H3 D (.dK (kvs ++ [(.inl (mk % (c : Int)), .ref d)]))) := fun b o e => by
            rw [upd_ne (ne_of_none e nD0)]
            exact td _ _ (s _ _ e)
          have ent4 : ∀ a, a < l → ∃ d', kvs[a]? = some (.inl (res a), .ref d') ∧ upd H3 D (.dK (kvs ++ [(.inl (mk % (c : Int)), .ref d)])) d' = some (.tup [.int (itr T a 0), .int (a : Int)]) := fun a al => by
            obtain ⟨d', e1, e2⟩ := ent a al
            have e3 := td _ _ e2
            refine ⟨d', e1, ?_⟩
            rw [upd_ne fun z => by rw [z, eK2] at e3; cases e3]
            exact e3
          have pl4 := pl.same s4
          generalize upd H3 D (.dK (kvs ++ [(.inl (mk % (c : Int)), .ref d)])) = H4 at ed4 eK4 s4 ent4 pl4 ⊢
          refine ⟨_, rfl, _, _, rfl, rfl, ?_⟩
          dsimp only [gName, List.set, tSeq]
          refine stJ (fun σ Hm => ∃ (o8 o9 : Option V), σ = [some (.ref t), some (.int (side : Int)), some (.int (rs.length : Int)), some (.int (c : Int)), some (.int (walkD rs.length (st size rs) false rs.length 0 mk)), some (.ref D), some (.int ((l : Int) + 1)), some (.int (0 + (j : Int))), o8, o9, o10, o11, o12, o13] ∧ Same H4 Hm) (fun D2 aft2 => ?_) ?_
          · refine ⟨_, rfl, (rs.length : Int), rfl, by omega, by omega, ?_⟩
            rw [Int.toNat_natCast]
            refine for_range (lo := 0) (n := rs.length) (fun m σ Hm => ∃ (o8 o9 : Option V), σ = [some (.ref t), some (.int (side : Int)), some (.int (rs.length : Int)), some (.int (c : Int)), some (.int (walkD rs.length (st size rs) false m 0 mk)), some (.ref D), some (.int ((l : Int) + 1)), some (.int (0 + (j : Int))), o8, o9, o10, o11, o12, o13] ∧ Same H4 Hm)
              ⟨_, _, rfl, Same.refl _⟩ (fun m σ Hm hm hI => ?_) (fun σ Hm hI => ?_)
            · obtain ⟨o8, o9, rfl, sm⟩ := hI
              dsimp only [gName, List.set, tSeq]
              have sl := rowD_lt (n := rs.length) false m 0 il
              have se : (0 - (0 + (m : Int))) % (rs.length : Int) = ((rowD rs.length false m 0 : Nat) : Int) := by
                rw [rowD_down m 0 il (by omega), Int.natCast_emod, ← Int.add_emod_right]
                congr 1
                omega
              refine ⟨_, rfl, _, _, rfl, rfl, .inl ⟨_, rfl, _, rfl, _, _, rfl, rfl, by show (0 : Int) < (rs.length : Int); omega, ?_⟩⟩
              dsimp only [gName, List.set, tSeq]
              rw [se]
              have plm := pl4.same sm
              have w1 : walkD rs.length (st size rs) false (m + 1) 0 mk = st size rs (rowD rs.length false m 0) (walkD rs.length (st size rs) false m 0 mk) := walkD_add m 1 0 mk
              rcases hst with ⟨rfl, rfl⟩ | ⟨rfl, rfl⟩
              · refine ⟨_, rfl, rfl, _, rfl, LK.ifT (decide_eq_true rfl) ?_⟩
                refine ⟨_, rfl, _, rfl, _, rfl, t, Ld, xs, _, _, size, rs, rfl, plm, ok, sl, fun H5 s5 => ?_⟩
                rw [← w1]
                exact ⟨_, _, rfl, sm.trans s5⟩
              · refine ⟨_, rfl, rfl, _, rfl, LK.ifF (decide_eq_false fun z => absurd (V.int.inj z) (by decide)) ?_⟩
                refine ⟨_, rfl, _, rfl, _, rfl, t, Ld, xs, _, _, size, rs, rfl, plm, ok, sl, fun H5 s5 => ?_⟩
                rw [← w1]
                exact ⟨_, _, rfl, sm.trans s5⟩
            · obtain ⟨o8, o9, rfl, sm⟩ := hI
              exact aft2 _ _ ⟨_, _, rfl, sm⟩
          rintro σ Hm ⟨o8, o9, rfl, sm⟩
          rw [hTy]
          have e5 : T mk = itr T (l + 1) 0 := by rw [itr_snoc, hmk]
          rw [e5]
          refine ⟨l + 1, kvs ++ [(.inl (mk % (c : Int)), .ref d)], some (.int (0 + (j : Int))), o8, o9, o10, o11, o12, o13, rfl, s4.trans sm, sm _ _ eK4, by rw [List.length_append, kl]; rfl, fun a al => ?_, fun a b ab bl => ?_, by omega, .inl (by omega)⟩
          · by_cases al' : a < l
            · obtain ⟨d', e1, e2⟩ := ent4 a al'
              refine ⟨d', ?_, sm _ _ e2⟩
              rw [List.getElem?_append_left (by omega)]
              exact e1
            · obtain rfl : a = l := by omega
              refine ⟨d, ?_, ?_⟩
              · rw [List.getElem?_append_right (by omega), kl, Nat.sub_self, hrl]
                rfl
              · rw [hmk]
                exact sm _ _ ed4
          · by_cases bl' : b < l
            · exact dis a b ab bl'
            · obtain rfl : b = l := by omega
              obtain ⟨d', e1, _⟩ := ent a ab
              intro z
              exact valV_no hv e1 (by rw [hrl, z])
      · obtain ⟨l, kvs, o7, o8, o9, o10, o11, o12, o13, rfl, s, eK, kl, ent, dis, lj, alt⟩ := hI
        refine aft _ _ ⟨l, kvs, _, _, _, _, _, _, _, rfl, s, eK, kl, ent, dis, lj, ?_⟩
        rcases alt with e | e
        · exfalso
          obtain ⟨a, b, ab, bc, e2⟩ := ring_met b1.1 T 0
          rw [hr2, hr2] at e2
          exact dis a b ab (by omega) e2
        · exact e
    rintro σ Hn ⟨l, kvs, o7, o8, o9, o10, o11, o12, o13, rfl, s, eK, kl, ent, dis, lc, a0, al0, ea0⟩
    dsimp only [tSeq]
    obtain ⟨a, d, al, hv, ed, ea⟩ : ∃ a d, a < l ∧ valV kvs (.inl (itr T l 0 % (c : Int))) = some (.ref d) ∧ Hn d = some (.tup [.int (itr T a 0), .int (a : Int)]) ∧ res a = res l := by
      rw [hr2]
      cases hv : valV kvs (.inl (res l)) with
      | none =>
        obtain ⟨d, e1, _⟩ := ent a0 al0
        exact (valV_no hv e1 (by rw [ea0])).elim
      | some v =>
        obtain ⟨a, ha, e1⟩ := valV_at hv
        obtain ⟨d, e2, e3⟩ := ent a (by omega)
        have e4 := Prod.mk.inj (Option.some.inj (e2.symm.trans e1))
        exact ⟨a, d, by omega, by rw [← e4.2], e3, Sum.inl.inj e4.1⟩
    obtain ⟨m, hm⟩ : ∃ m : Nat, l - a = m := ⟨_, rfl⟩
    obtain ⟨x, hx⟩ : ∃ x, itr T a 0 = x := ⟨_, rfl⟩
    have bk : Back c T m ((itr T l 0 - x) / (c : Int)) x := by
      show itr T m x = _
      rw [← hm, ← hx, ← itr_add, show a + (l - a) = l by omega]
      have e1 : itr T l 0 % (c : Int) = itr T a 0 % (c : Int) := by rw [hr2, hr2, ea]
      have e2 := mod_eq_back b1.1 e1
      have e3 : (itr T l 0 - itr T a 0) / (c : Int) = itr T l 0 / (c : Int) - itr T a 0 / (c : Int) := by
        rw [show itr T l 0 - itr T a 0 = (itr T l 0 / (c : Int) - itr T a 0 / (c : Int)) * c by omega]
        exact Int.mul_ediv_cancel _ (Int.ne_of_gt c0)
      rw [e3]
      exact e2
    have lm : Least c T m x := ⟨by omega, fun k k0 km q hq => by
      refine dis a (a + k) (by omega) (by omega) ?_
      rw [← hr2, ← hr2, itr_add, hx]
      exact (mod_back hq).symm⟩
    have tn := turn_of p1 mono bk lm
    refine ⟨_, rfl, _, rfl, .inl ⟨_, rfl, _, rfl, _, _, rfl, rfl, by show (0 : Int) < (c : Int); omega, D, .ref d, rfl, .inl ⟨kvs, .inl (itr T l 0 % (c : Int)), .inl eK, rfl, hv.symm⟩, ?_⟩⟩
    rw [hx] at ed
    dsimp only [gName, List.set, tSeq]
    refine ⟨_, rfl, _, rfl, d, _, 0, _, rfl, rfl, SqT.of ed, atI_nat (j := 0) rfl, _, _, rfl, rfl, _, rfl, _, _, rfl, rfl, wide_div (b := 20) (by omega) (by omega) (by decide) (by decide), ?_⟩
    refine ⟨_, rfl, _, rfl, d, _, 1, _, rfl, rfl, SqT.of ed, atI_nat (j := 1) rfl, _, _, rfl, rfl, by show 2 ≤ sizeLine; decide, fun q nq => ?_⟩
    obtain ⟨mv, hmv⟩ : ∃ mv, (itr T l 0 - x) / (c : Int) = mv := ⟨_, rfl⟩
    rw [hmv] at bk tn
    dsimp only
    rw [hmv]
    have elm : ((l : Int) - (a : Int)) = (m : Int) := by omega
    refine ⟨q, _, rfl, SqT.of upd_same, rfl, ?_⟩
    refine ⟨_, _, rfl, _, _, rfl, rfl, ?_⟩
    have tq := same_new (o := .tup [.int mv, .int ((l : Int) - (a : Int))]) nq
    have s6 := s.trans tq
    dsimp only [gName, gCons, gNil, List.set, tSeq]
    generalize upd Hn q (.tup [.int mv, .int ((l : Int) - (a : Int))]) = H6 at s6 ⊢
    rw [elm]
    refine ⟨_, rfl, _, _, rfl, rfl, _, _, rfl, ⟨by omega, by omega, by omega, by omega⟩, fun P nP => ?_⟩
    rw [show (((m : Int) + 1) - 1).toNat = m by omega]
    have m0 := lm.1
    refine lc_range (lo := 1) (n := m) (fun j H' => Same H6 H' ∧ H' P = some (.lst (if j = 0 then [] else [.int 1]))) ⟨same_new nP, upd_same⟩ (fun j H' hj hh => ⟨rfl, ?_⟩) (fun H' hh => ?_)
    · obtain ⟨sx, eP⟩ := hh
      have m62 : -(2 ^ 62 : Int) ≤ (1 + (j : Int)) := by omega
      refine ⟨_, rfl, .inl ⟨_, rfl, _, rfl, _, _, rfl, rfl, by show (0 : Int) < 1 + (j : Int); omega, rfl, _, rfl, ?_⟩⟩
      by_cases j0 : j = 0
      · subst j0
        refine LK.ifT (decide_eq_true (congrArg V.int (Int.emod_one _))) ?_
        refine ⟨_, rfl, .inl ⟨_, rfl, _, rfl, _, _, rfl, rfl, (show (0 : Int) < 1 + ((0 : Nat) : Int) by decide), rfl, _, rfl, ?_⟩⟩
        refine LK.ifT (decide_eq_true (congrArg V.int (Int.emod_one _))) ?_
        refine ⟨_, rfl, _, eP, by show 0 < sizeLine; rw [sizeLine_eq]; decide, same_newU sx nP, ?_⟩
        rw [upd_same]
        rfl
      · rw [if_neg j0] at eP
        have eP' : H' P = some (.lst (if j + 1 = 0 then [] else [.int 1])) := by rw [if_neg (Nat.succ_ne_zero _)]; exact eP
        by_cases q1 : mv % (1 + (j : Int)) = 0
        case neg => exact LK.ifF (decide_eq_false fun z => q1 (V.int.inj z)) (LK.ifF rfl ⟨sx, eP'⟩)
        refine LK.ifT (decide_eq_true (congrArg V.int q1)) ?_
        refine ⟨_, rfl, .inl ⟨_, rfl, _, rfl, _, _, rfl, rfl, by show (0 : Int) < 1 + (j : Int); omega, rfl, _, rfl, ?_⟩⟩
        refine LK.ifF (decide_eq_false fun z => ?_) ⟨sx, eP'⟩
        have q2 := V.int.inj z
        have := tn.one (k := 1 + j) (by rw [Int.natCast_add]; exact q1) (by
          have : (((m % (1 + j) : Nat)) : Int) = 0 := by rw [Int.natCast_emod, Int.natCast_add]; exact q2
          omega)
        omega
    obtain ⟨sx, eP⟩ := hh
    rw [if_neg (by omega)] at eP
    refine ⟨P, [1], rfl, SqL.of eP, by decide, fun M hM _ => ?_⟩
    obtain rfl := List.mem_singleton.mp hM
    dsimp only [gName, List.set, tSeq]
    refine ⟨_, rfl, _, rfl, _, _, rfl, rfl, wide_div (b := 2) (by decide) (by decide) (by decide) (by decide), _, rfl, _, rfl, _, _, rfl, rfl, wide_div (b := 2) (by decide) (by decide) (by decide) (by decide), by show 2 ≤ sizeLine; decide, fun r nr => ?_⟩
    refine k r _ mv m ((s6.trans sx).trans (same_new nr)) tn ?_
    rw [upd_same]
    dsimp only
    rw [Int.ediv_one, Int.ediv_one]
end
end S8
/-! Chart.__eq__, great draws -/
namespace S8
open PySem PySem.Spec PyProof.Rows L2 LK MXi MY MZ
/-- the type of an instance of the class -/
structure InsTy (K : PySem.W.Frag) (C : Addr) : Prop where
  ty : ∀ {H : Hp} {x dx : Addr} {fs : List (Str × V)}, H x = some (.ins C dx fs) → TyX K H (.ref x) (.ref C)
  own : PySem.W.kitOne K (.ref C) (.ref C) = some true
theorem sh_lay {d : PyData} (h : SeqAt.shaped d = true) : d.canLay0 = true := by
  have : (d.canLay0 && decide (d.depth ≤ 64)) = true := h
  rw [Bool.and_eq_true] at this
  exact this.1
theorem sh_nats (ks : List Nat) : SeqAt.shaped (.list (ks.map fun k : Nat => PyData.int (k : Int))) = true := by
  have := sh_ints (ks.map fun k : Nat => (k : Int))
  rw [List.map_map] at this
  exact this
theorem lay_st (ss : List Sti) : PyData.canLayAll0 (ss.map stD) = true ∧ PyData.depthAll (ss.map stD) ≤ 1 := ⟨layAll_iff.mpr fun d hd => by obtain ⟨s, _, rfl⟩ := List.mem_map.mp hd; rfl, dpAll_iff.mpr fun d hd => by obtain ⟨s, _, rfl⟩ := List.mem_map.mp hd; exact Nat.le_refl _⟩
theorem lay_rw {r : Rw} (h : Yn r.nm) : (rwD r).canLay0 = true ∧ (rwD r).depth ≤ 3 := by
  obtain ⟨a, b⟩ := lay_st r.sts
  refine ⟨layAll_iff.mpr fun d hd => ?_, ?_⟩
  · rcases List.mem_cons.mp hd with rfl | hd
    · exact yn_lay h
    rcases List.mem_cons.mp hd with rfl | hd
    · rfl
    · rw [List.mem_singleton.mp hd]
      exact a
  · have : PyData.depthAll [.str r.nm, .int (r.off : Int), .tuple (r.sts.map stD)] ≤ 2 := dpAll_iff.mpr fun d hd => by
      rcases List.mem_cons.mp hd with rfl | hd
      · exact Nat.zero_le _
      rcases List.mem_cons.mp hd with rfl | hd
      · exact Nat.zero_le _
      · rw [List.mem_singleton.mp hd]
        show PyData.depthAll _ + 1 ≤ 2
        omega
    show _ + 1 ≤ 3
    omega
theorem sh_rws {rs : List Rw} (h : ∀ r ∈ rs, Yn r.nm) : SeqAt.shaped (.list (rs.map rwD)) = true := by
  refine shaped_of (layAll_iff.mpr fun d hd => by obtain ⟨r, hr, rfl⟩ := List.mem_map.mp hd; exact (lay_rw (h r hr)).1) ?_
  have : PyData.depthAll (rs.map rwD) ≤ 3 := dpAll_iff.mpr fun d hd => by obtain ⟨r, hr, rfl⟩ := List.mem_map.mp hd; exact (lay_rw (h r hr)).2
  show _ + 1 ≤ 64
  omega
theorem OkCh.yn {size : Nat} {rs : List Rw} (h : OkCh size rs) : ∀ r ∈ rs, Yn r.nm := fun r m => by
  obtain ⟨i, hi⟩ := List.getElem?_of_mem m
  obtain ⟨a, c1, c2, ok⟩ := rows_at h.rows hi
  exact ok.nm
/-- two charts of the same rows -/
def BothH (K : PySem.W.Frag) (CC : Addr) : Addr → Addr → Hp → Prop := fun x y H => ∃ (size : Nat) (rs : List Rw), (∀ r ∈ rs, Yn r.nm) ∧ rs.length ≤ 1000 ∧ IsH K CC H x size rs ∧ IsH K CC H y size rs
/-- the own == -/
structure ChQ (P : Program) (w : World) (K : PySem.W.Frag) (mg : Str → Option Value) (base : Heap) (CC : Addr) where
  fQ : Addr
  dQ : FuncData
  oQ : FnOk P w K mg base CX0 1 fQ dQ ["self", "other"] (spEq (BothH K CC))
  eq : PySem.W.findIn K (.ref CC) "__eq__" = some (some (.ref fQ))
  eqF : PySem.W.isFn K (.ref fQ) = true
  bQ : Binds K dQ ["self", "other"] []
/-- a draw of a great span -/
def spPlyB : Sp := fun vs H Q _ => ∃ (c : Addr) (span : Int) (B : Nat), vs = [.ref c, .int span] ∧ 0 < span ∧ span < 2 ^ 99 ∧ CR H c B ∧ B < 10 ^ 12 ∧
  ∀ (d : Int) (H' : Hp), 0 ≤ d → d < span → CR H' c (B + 1) → Bt c H H' → (∀ p, H' p = none ↔ H p = none) → Q (.int d) H'
section
variable {P : Program} {w : World} {K : PySem.W.Frag} {mg : Str → Option Value} {base : Heap}
theorem ok_plyB {f : Addr} {fd : FuncData} (F : Fun K "_law_ply" "_law_ply" sPly f fd) (B : Bl mg) : FnOk P w K mg base CX0 1 f fd ["creel", "span"] spPlyB := by
  refine F.ok scPly (fun vs H Q E h => ?_) (fun cdv A outer s H vs Q E hr h => ?_)
  · obtain ⟨c, span, _, rfl, _⟩ := h
    rfl
  · obtain ⟨c, span, bb, rfl, p0, p1, ⟨a, b, n, hc, a0, b0, b1, n0, n1⟩, bB, k⟩ := h
    refine ⟨_, pss_cons (ps_if (pt_cmpR op_gt (pe_ix ix_list (pv 0) pe_int (fun _ _ => rfl)) pe_int (nomark _)) (pss_cons (ps_set (i := 2) scPly.nd rfl (Or.inl rfl) (pe_op op_mod (pe_callTy call_int1 (by rfl) (B "int" (by decide)) (by decide +kernel) (pa_cons (pe_ix ix_list (pv 0) pe_int (fun _ _ => rfl)) pa_nil)) (pv 1)))
      (pss_cons (ps_asg (pe_op op_fdivW (pe_ix ix_list (pv 0) pe_int (fun _ _ => rfl)) (pv 1)) (pg_sub (pv 0) pe_int set_list))
      (pss_one (ps_ret (pv 2))))) pss_nil)
      (pss_cons (ps_asg (pe_op op_add (pe_ix ix_list (pv 0) pe_int (fun _ _ => rfl)) pe_int) (pg_sub (pv 0) pe_int set_list))
      (pss_cons (ps_set (i := 3) scPly.nd rfl (Or.inl rfl) (pe_op op_mod (pe_op op_powB (pe_callTy call_int1 (by rfl) (B "int" (by decide)) (by decide +kernel) (pa_cons (pe_op op_add (pe_ix ix_list (pv 0) pe_int (fun _ _ => rfl)) (pe_op op_mul pe_int (pe_ix ix_list (pv 0) pe_int (fun _ _ => rfl)))) pa_nil)) pe_int) (pe_op op_add (pe_op op_pow pe_int pe_int) pe_int)))
      (pss_cons (ps_set (i := 3) scPly.nd rfl (Or.inl rfl) (pe_op op_mod (pe_op op_powB (pe_callTy call_int1 (by rfl) (B "int" (by decide)) (by decide +kernel) (pa_cons (pe_op op_add (pv 3) (pe_op op_mul pe_int (pe_ix ix_list (pv 0) pe_int (fun _ _ => rfl)))) pa_nil)) pe_int) (pe_op op_add (pe_op op_pow pe_int pe_int) pe_int)))
      (pss_one (ps_ret (pe_op op_mod (pe_op op_fdivW (pv 3) pe_int) (pv 1))))))), ?_⟩
    refine ⟨_, rfl, c, _, 0, _, rfl, rfl, SqL.of hc, atI_nat (j := 0) rfl, _, _, rfl, rfl, _, rfl, ?_⟩
    by_cases big : a > 0
    · refine LK.ifT (decide_eq_true big) ?_
      refine ⟨_, rfl, c, _, 0, _, rfl, rfl, SqL.of hc, atI_nat (j := 0) rfl, .inl ⟨_, rfl, _, rfl, _, _, rfl, rfl, p0, ?_⟩⟩
      refine ⟨_, rfl, c, _, 0, _, rfl, rfl, SqL.of hc, atI_nat (j := 0) rfl, _, rfl, _, _, rfl, rfl, wide_div (b := 100) p0 (by omega) (by decide) (by decide), ?_⟩
      refine ⟨_, rfl, c, _, _, 0, rfl, rfl, hc, rfl, ?_⟩
      exact ⟨_, rfl, k _ _ (Int.emod_nonneg _ (by omega)) (Int.emod_lt_of_pos _ p0) ⟨_, _, _, upd_same, Int.ediv_nonneg a0 (by omega), b0, b1, n0, by omega⟩ Bt.put (fun p => upd_none hc)⟩
    · refine LK.ifF (decide_eq_false big) ?_
      refine ⟨_, rfl, c, _, 2, _, rfl, rfl, SqL.of hc, atI_nat (j := 2) rfl, _, _, rfl, rfl, ?_⟩
      refine ⟨_, rfl, c, _, _, 2, rfl, rfl, hc, rfl, ?_⟩
      have hc2 : upd H c (.lst [.int a, .int b, .int (n + 1)]) c = some (.lst [.int a, .int b, .int (n + 1)]) := upd_same
      refine ⟨_, rfl, c, _, 1, _, rfl, rfl, SqL.of hc2, atI_nat (j := 1) rfl, _, rfl, c, _, 2, _, rfl, rfl, SqL.of hc2, atI_nat (j := 2) rfl, _, _, rfl, rfl, .inl ⟨by decide, by decide⟩, _, _, rfl, rfl, .inl ⟨_, rfl, ?_⟩⟩
      have m0 : 0 ≤ b + 50021 * (n + 1) := by omega
      have m1 : b + 50021 * (n + 1) < 2 ^ 140 := by
        have : (10 : Int) ^ 40 + 50021 * (10 ^ 12 + 1) < 2 ^ 140 := by decide
        omega
      have w1 := bits_small (i := b + 50021 * (n + 1)) (n := 140) (by omega) (by decide)
      refine ⟨_, _, rfl, rfl, ⟨by decide, by omega⟩, _, _, rfl, rfl, ⟨by decide, by decide, by decide⟩, _, _, rfl, rfl, _, _, rfl, rfl, (show (0 : Int) < 10 ^ 38 + 67 by decide), ?_⟩
      generalize hx : (b + 50021 * (n + 1)) ^ (2 : Int).toNat % ((10 : Int) ^ (38 : Int).toNat + 67) = x
      have x0 : 0 ≤ x := by rw [← hx]; exact Int.emod_nonneg _ (by decide)
      have x1 : x < 10 ^ 38 + 67 := by rw [← hx]; exact Int.emod_lt_of_pos _ (by decide)
      refine ⟨_, rfl, _, rfl, c, _, 2, _, rfl, rfl, SqL.of hc2, atI_nat (j := 2) rfl, _, _, rfl, rfl, .inl ⟨by decide, by decide⟩, _, _, rfl, rfl, .inl ⟨_, rfl, ?_⟩⟩
      have q0 : 0 ≤ x + 700001 * (n + 1) := by omega
      have q1 : x + 700001 * (n + 1) < 2 ^ 140 := by
        have : (10 : Int) ^ 38 + 67 + 700001 * (10 ^ 12 + 1) < 2 ^ 140 := by decide
        omega
      have w2 := bits_small (i := x + 700001 * (n + 1)) (n := 140) (by omega) (by decide)
      refine ⟨_, _, rfl, rfl, ⟨by decide, by rw [hx]; omega⟩, _, _, rfl, rfl, ⟨by decide, by decide, by decide⟩, _, _, rfl, rfl, _, _, rfl, rfl, (show (0 : Int) < 10 ^ 39 + 37 by decide), ?_⟩
      generalize hy : (x + 700001 * (n + 1)) ^ (3 : Int).toNat % ((10 : Int) ^ (39 : Int).toNat + 37) = y
      refine ⟨_, rfl, _, _, rfl, rfl, wide_div (b := 60) (by decide) (by decide) (by decide) (by decide), _, rfl, _, _, rfl, rfl, p0, ?_⟩
      exact k _ _ (Int.emod_nonneg _ (by omega)) (Int.emod_lt_of_pos _ p0) ⟨_, _, _, hc2, a0, b0, b1, by omega, by omega⟩ Bt.put (fun p => upd_none hc)
abbrev sHeq : Stmt := inClass (top 36) 8
theorem scHeq : FnScope ["self", "other"] ["self", "other"] (defScope sHeq) := ⟨rfl, rfl, rfl, by decide +kernel, rfl, by decide +kernel, by decide +kernel⟩
theorem ok_Heq {f : Addr} {fd : FuncData} (F : Fun K "__eq__" "Chart.__eq__" sHeq f fd) (B : Bl mg) {CC : Addr} (gC : mg "Chart" = some (.ref CC)) (cc : Cls K CC) (n1 : NoAttr K CC "_counts") (n2 : NoAttr K CC "_rows") (it : InsTy K CC) : FnOk P w K mg base CX0 1 f fd ["self", "other"] (spEq (BothH K CC)) := by
  refine F.ok scHeq (fun vs H Q E h => ?_) (fun cdv A outer s H vs Q E hr h => ?_)
  · obtain ⟨a, b, rfl, _⟩ := h
    rfl
  · obtain ⟨a, b, rfl, ⟨size, rs, ok, rl, ⟨dx, L, G, xs, hx, hL, dL, hG⟩, dy, M, N, ys, hy, hM, dM, hN⟩, k⟩ := h
    refine ⟨_, pss_one (ps_ret (pe_and (pe_callB call_isi (by rfl) (B "isinstance" (by decide)) (by decide +kernel) (pa_cons (pv 1) (pa_cons (pe_glob rfl gC (v := .ref CC) rfl) pa_nil))) (pe_and (pe_cmpR (op_eqD hr.units) (pe_fld (pv 0) rfl) (pe_fld (pv 1) rfl) (nomark _)) (pe_one (pe_cmpR (op_eqD hr.units) (pe_fld (pv 0) rfl) (pe_fld (pv 1) rfl) (nomark _)))))), ?_⟩
    have s1 : SeqAt.shaped (.list ((cnts size rs).map fun k : Nat => PyData.int (k : Int))) = true := sh_nats _
    have s2 : SeqAt.shaped (.list (rs.map rwD)) = true := sh_rws ok
    refine ⟨_, rfl, _, _, _, _, true, rfl, .own CC, it.ty hy, it.own, _, rfl, LK.ifT rfl ?_⟩
    refine ⟨_, rfl, a, CC, dx, _, _, rfl, hx, cc, n1, rfl, _, rfl, b, CC, dy, _, _, rfl, hy, cc, n1, rfl, .list _, .list _, .lst (SqL.of hG) (dp_nI _), .lst (SqL.of hN) (dp_nI _), s1, s1, _, rfl, LK.ifT (SeqAt.eqv_refl _ (sh_lay s1)) ?_⟩
    refine ⟨_, rfl, a, CC, dx, _, _, rfl, hx, cc, n2, rfl, _, rfl, b, CC, dy, _, _, rfl, hy, cc, n2, rfl, .list _, .list _, .lst (SqL.of hL) dL, .lst (SqL.of hM) dM, s2, s2, ?_⟩
    have := k H Ext.rfl'
    rwa [← SeqAt.eqv_refl (.list (rs.map rwD)) (sh_lay s2)] at this
end
end S8
/-! turn, turns -/
namespace S8
open PySem PySem.Spec PyProof.Rows L2 LK MXi MY MZ
def spTrn (K : PySem.W.Frag) : Sp := fun vs H Q _ => ∃ (t : Addr) (c : Nat) (T : Int → Int), vs = [.ref t] ∧ SqL K H t ((tabL c T).map V.int) ∧ 1 ≤ c ∧ c ≤ 1000 ∧ Per1 c T ∧
  ∀ (d : Addr) (H' : Hp) (p : Int) (m : Nat), Same H H' → Back c T m p (itr T c 0) → Least c T m (itr T c 0) → H' d = some (.tup [.int p, .int m]) → Q (.ref d) H'
def spTns (K : PySem.W.Frag) (CC : Addr) : Sp := fun vs H Q _ => ∃ (x : Addr) (size : Nat) (rs : List Rw), vs = [.ref x] ∧ IsH K CC H x size rs ∧ OkCh size rs ∧
  ∀ (d : Addr) (H' : Hp) (p1 : Int) (m1 : Nat) (p2 : Int) (m2 : Nat), Same H H' → Turn (cn size rs (0 + 1)) (fun y => walkD rs.length (lEnd size rs) false rs.length 0 y) p1 m1 → Turn (cn size rs (0 + 1)) (fun y => walkD rs.length (rEnd size rs) false rs.length 0 y) p2 m2 →
    Dp K H' (.ref d) (.tuple [.tuple [.int p1, .int m1], .tuple [.int p2, .int m2]]) → Q (.ref d) H'
section
variable {P : Program} {w : World} {K : PySem.W.Frag} {mg : Str → Option Value} {base : Heap}
abbrev sTrn : Stmt := top 26
theorem scTrn : FnScope ["table", "count", "start", "end", "times"] ["table"] (defScope sTrn) := ⟨rfl, rfl, rfl, by decide +kernel, rfl, by decide +kernel, by decide +kernel⟩
theorem ok_Trn {f : Addr} {fd : FuncData} (F : Fun K "turn" "turn" sTrn f fd) (B : Bl mg)
    {f_shifted : Addr} {d_shifted : FuncData} (G_shifted : FnOk P w K mg base CX0 1 f_shifted d_shifted ["table", "number"] (spShf K)) (g_shifted : mg "shifted" = some (.ref f_shifted)) (k_shifted : PySem.W.keepIn K (.ref f_shifted) = true) (b_shifted : Binds K d_shifted ["table", "number"] [])
    {f_repeated : Addr} {d_repeated : FuncData} (G_repeated : FnOk P w K mg base CX0 2 f_repeated d_repeated ["table", "number", "times"] (spRep K)) (g_repeated : mg "repeated" = some (.ref f_repeated)) (k_repeated : PySem.W.keepIn K (.ref f_repeated) = true) (b_repeated : Binds K d_repeated ["table", "number", "times"] []) : FnOk P w K mg base CX0 3 f fd ["table"] (spTrn K) := by
  refine F.ok scTrn (fun vs H Q E h => ?_) (fun cdv A outer s H vs Q E hr h => ?_)
  · obtain ⟨t, c, T, rfl, _⟩ := h
    rfl
  · obtain ⟨t, c, T, rfl, ht, c1, c2, per, k⟩ := h
    refine ⟨_, pss_cons (ps_set (i := 1) scTrn.nd rfl (Or.inl rfl) (pe_callB call_len_seq (by rfl) (B "len" (by decide)) (by decide +kernel) (pa_cons (pv 0) pa_nil)))
      (pss_cons (ps_set (i := 2) scTrn.nd rfl (Or.inl rfl) (pe_call (E := E0) G_repeated (hr.mono (by decide)) rfl g_repeated k_repeated b_repeated .nil pass0 (pa_cons (pv 0) (pa_cons pe_int (pa_cons (pv 1) pa_nil)))))
      (pss_cons (ps_par (i := 3) (j := 4) rfl scTrn.nd rfl rfl (by decide) rfl rfl (pa_cons (pe_call (E := E0) G_shifted (hr.mono (by decide)) rfl g_shifted k_shifted b_shifted .nil pass0 (pa_cons (pv 0) (pa_cons (pv 2) pa_nil))) (pa_cons pe_int pa_nil)) (by rfl))
      (pss_cons (ps_while PassesOwn.never (pt_cmpR op_gt (pe_op op_mod (pe_op op_sub (pv 3) (pv 2)) (pv 1)) pe_int (nomark _)) (pss_one (ps_par (i := 3) (j := 4) rfl scTrn.nd rfl rfl (by decide) rfl rfl (pa_cons (pe_call (E := E0) G_shifted (hr.mono (by decide)) rfl g_shifted k_shifted b_shifted .nil pass0 (pa_cons (pv 0) (pa_cons (pv 3) pa_nil))) (pa_cons (pe_op op_add (pv 4) pe_int) pa_nil)) (by rfl))))
      (pss_one (ps_ret (pe_tup (pa_cons (pe_op op_fdivW (pe_op op_sub (pv 3) (pv 2)) (pv 1)) (pa_cons (pv 4) pa_nil)))))))), ?_⟩
    have ty2 : sizeLine = 16777216 := sizeLine_eq
    obtain ⟨mm, pp, mm0, _, bb⟩ := ring_back c1 per 0 (Nat.le_refl c)
    obtain ⟨m, p, _, bk, lm⟩ := least_of mm pp mm0 bb
    clear bb mm0
    refine ⟨_, rfl, t, _, rfl, .inl ht, ?_⟩
    rw [List.length_map, tabL_len]
    dsimp only [gName, List.set, tSeq]
    refine ⟨_, rfl, _, rfl, t, 0, c, c, T, rfl, ht, c1, c2, per, fun H1 s1 => ?_⟩
    obtain ⟨z, hz⟩ : ∃ z, itr T c 0 = z := ⟨_, rfl⟩
    rw [hz] at bk lm k ⊢
    dsimp only [gName, List.set, tSeq]
    refine ⟨_, rfl, _, rfl, t, z, c, T, rfl, s1.seq ht, c1, c2, per, fun H2 s2 => ?_⟩
    refine ⟨_, _, rfl, ?_⟩
    dsimp only [gName, List.set, tSeq]
    refine ⟨fun g σ Hn => ∃ j : Nat, σ = [some (.ref t), some (.int (c : Int)), some (.int z), some (.int (itr T j z)), some (.int (j : Int))] ∧ Same H Hn ∧ 0 < j ∧ j ≤ m ∧ g = m - j, ⟨_, 1, rfl, s1.trans s2, by decide, lm.1, rfl⟩, fun g σ Hn hI => ?_⟩
    obtain ⟨j, rfl, s, j0, jm, rfl⟩ := hI
    have c0 : (0 : Int) < (c : Int) := by omega
    refine ⟨_, rfl, _, rfl, _, _, rfl, rfl, _, rfl, _, _, rfl, rfl, by show (0 : Int) < (c : Int); omega, _, _, rfl, rfl, _, rfl, ?_⟩
    have r0 := Int.emod_nonneg (itr T j z - z) (Int.ne_of_gt c0)
    have re := Int.mul_ediv_add_emod (itr T j z - z) (c : Int)
    by_cases q : (itr T j z - z) % (c : Int) = 0
    · refine LK.ifF (decide_eq_false (by omega)) ?_
      have bj : Back c T j ((itr T j z - z) / (c : Int)) z := by
        show itr T j z = _
        rw [Int.mul_comm ((itr T j z - z) / (c : Int))]
        omega
      have jj : j = m := by
        refine Classical.byContradiction fun w => lm.2 j j0 (by omega) _ bj
      subst jj
      dsimp only [tSeq]
      refine ⟨_, rfl, _, rfl, _, _, rfl, rfl, _, rfl, _, _, rfl, rfl, wide_div (b := 20) (by omega) (by omega) (by decide) (by decide), _, rfl, by show 2 ≤ sizeLine; decide, fun d nd => ?_⟩
      exact k d _ _ j (s.trans (same_new nd)) bj lm upd_same
    · have jm' : j < m := by
        rcases Nat.lt_or_ge j m with l | l
        · exact l
        · exfalso
          obtain rfl : j = m := by omega
          have b2 : itr T j z = z + p * c := bk
          rw [b2, show z + p * (c : Int) - z = p * c by omega] at q
          exact q (Int.mul_emod_left _ _)
      refine LK.ifT (decide_eq_true (by omega)) ⟨fun σ' H' => ∃ g' < m - j, ∃ j : Nat, σ' = [some (.ref t), some (.int (c : Int)), some (.int z), some (.int (itr T j z)), some (.int (j : Int))] ∧ Same H H' ∧ 0 < j ∧ j ≤ m ∧ g' = m - j, fun σ' H' ⟨g', lt, h⟩ => ⟨g', lt, h⟩, ?_⟩
      dsimp only [tSeq]
      refine ⟨_, rfl, _, rfl, t, itr T j z, c, T, rfl, s.seq ht, c1, c2, per, fun H3 s3 => ?_⟩
      refine ⟨_, rfl, _, _, rfl, rfl, ?_⟩
      refine ⟨_, _, rfl, ?_⟩
      refine ⟨m - (j + 1), by omega, j + 1, ?_, s.trans s3, by omega, by omega, rfl⟩
      rw [itr_snoc]
      rfl
abbrev sTns : Stmt := top 27
theorem scTns : FnScope ["chart", "lefts", "rights"] ["chart"] (defScope sTns) := ⟨rfl, rfl, rfl, by decide +kernel, rfl, by decide +kernel, by decide +kernel⟩
theorem ok_Tns {f : Addr} {fd : FuncData} (F : Fun K "turns" "turns" sTns f fd) (B : Bl mg) {CC : Addr} (N : Ch2 P w K mg base CC)
    {f_turn : Addr} {d_turn : FuncData} (G_turn : FnOk P w K mg base CX0 3 f_turn d_turn ["table"] (spTrn K)) (g_turn : mg "turn" = some (.ref f_turn)) (k_turn : PySem.W.keepIn K (.ref f_turn) = true) (b_turn : Binds K d_turn ["table"] [])
    {f_round_table f_left_end f_right_end : Addr} {d_round_table : FuncData} (G_rdt_l : FnOk P w K mg base CX0 6 f_round_table d_round_table ["chart", "row", "step", "by"] (spRdt K CC f_left_end lEnd false)) (G_rdt_r : FnOk P w K mg base CX0 6 f_round_table d_round_table ["chart", "row", "step", "by"] (spRdt K CC f_right_end rEnd false)) (g_round_table : mg "round_table" = some (.ref f_round_table)) (k_round_table : PySem.W.keepIn K (.ref f_round_table) = true) (b_round_table : Binds K d_round_table ["chart", "row", "step", "by"] []) (g_left_end : mg "left_end" = some (.ref f_left_end)) (g_right_end : mg "right_end" = some (.ref f_right_end)) : FnOk P w K mg base CX0 7 f fd ["chart"] (spTns K CC) := by
  refine F.ok scTns (fun vs H Q E h => ?_) (fun cdv A outer s H vs Q E hr h => ?_)
  · obtain ⟨x, size, rs, rfl, _⟩ := h
    rfl
  · obtain ⟨x, size, rs, rfl, hx, ok, k⟩ := h
    refine ⟨_, pss_cons (ps_set (i := 1) scTns.nd rfl (Or.inl rfl) (pe_call (E := E0) G_rdt_l (hr.mono (by decide)) rfl g_round_table k_round_table b_round_table .nil pass0 (pa_cons (pv 0) (pa_cons pe_int (pa_cons (pe_glob (v := .ref f_left_end) rfl g_left_end rfl) (pa_cons (pe_un un_neg pe_int) pa_nil))))))
      (pss_cons (ps_set (i := 2) scTns.nd rfl (Or.inl rfl) (pe_call (E := E0) G_rdt_r (hr.mono (by decide)) rfl g_round_table k_round_table b_round_table .nil pass0 (pa_cons (pv 0) (pa_cons pe_int (pa_cons (pe_glob (v := .ref f_right_end) rfl g_right_end rfl) (pa_cons (pe_un un_neg pe_int) pa_nil))))))
      (pss_one (ps_ret (pe_tup (pa_cons (pe_call (E := E0) G_turn (hr.mono (by decide)) rfl g_turn k_turn b_turn .nil pass0 (pa_cons (pv 1) pa_nil)) (pa_cons (pe_call (E := E0) G_turn (hr.mono (by decide)) rfl g_turn k_turn b_turn .nil pass0 (pa_cons (pv 2) pa_nil)) pa_nil)))))), ?_⟩
    have rl := ok.rl
    have il : 0 < rs.length := by omega
    have b2 := ok.cn1 (0 + 1)
    refine ⟨_, rfl, 1, rfl, x, 0, size, rs, rfl, hx, ok, il, fun q H1 nq s1 eq => ?_⟩
    dsimp only [gName, List.set, tSeq]
    refine ⟨_, rfl, 1, rfl, x, 0, size, rs, rfl, hx.same s1, ok, il, fun r H2 nr s2 er => ?_⟩
    dsimp only [gName, List.set, tSeq]
    refine ⟨_, rfl, q, _, _, rfl, SqL.of (s2 _ _ eq), b2.1, b2.2, round_per (lEnd_per ok) il, fun d1 H3 p1 m1 s3 k1 l1 e1 => ?_⟩
    refine ⟨_, rfl, r, _, _, rfl, SqL.of (s3 _ _ er), b2.1, b2.2, round_per (rEnd_per ok) il, fun d2 H4 p2 m2 s4 k2 l2 e2 => ?_⟩
    refine ⟨by show 2 ≤ sizeLine; decide, fun d nd => ?_⟩
    have t4 := same_new (o := .tup [.ref d1, .ref d2]) nd
    refine k d _ p1 m1 p2 m2 ((s1.trans s2).trans (s3.trans (s4.trans t4))) (turn_of (round_per (lEnd_per ok) il) (fun a b l => lEnd_mono ok _ _ _ _ _ rfl il l) k1 l1) (turn_of (round_per (rEnd_per ok) il) (fun a b l => rEnd_mono ok _ _ _ _ _ rfl il l) k2 l2) ?_
    exact .tup (SqT.of upd_same) (.cons (.tup (SqT.of (t4 _ _ (s4 _ _ e1))) (.cons (.int _) (.cons (.int _) .nil))) (.cons (.tup (SqT.of (t4 _ _ e2)) (.cons (.int _) (.cons (.int _) .nil))) .nil))
end
end S8
/-! How far a round can move; places that come back, row by row. -/
namespace MZ
open PySem PySem.Spec PyProof.Rows L2 LK MY
theorem Back.row {n : Nat} {st : Nat → Int → Int} {up : Bool} {c : Nat → Nat} (hper : Per n st up c) {i : Nat} (k : Nat) (il : i < n) {p x : Int} {m : Nat} (b : Back (c i) (fun y => walkD n st up n i y) m p x) : Back (c (rowD n up k i)) (fun y => walkD n st up n (rowD n up k i) y) m p (walkD n st up k i x) := by
  have jl := rowD_lt up k i il
  have com : ∀ (l : Nat) (y : Int), itr (fun y => walkD n st up n (rowD n up k i) y) l (walkD n st up k i y) = walkD n st up k i (itr (fun y => walkD n st up n i y) l y) := fun l y => by
    rw [← (walkD_round (st := st) il l y).1, ← (walkD_round (st := st) jl l _).1, ← walkD_add, Nat.add_comm k, walkD_add, (walkD_round (st := st) il l y).2]
  show itr _ m (walkD n st up k i x) = _
  rw [com, b, walkD_per hper k i x p il]
theorem Turn.le {c : Nat} {T : Int → Int} (c1 : 1 ≤ c) (hp : Per1 c T) (hm : Mono T) {m : Nat} {p : Int} (h : Turn c T p m) : m ≤ c := by
  obtain ⟨n, q, n0, nc, b⟩ := ring_back c1 hp 0 (Nat.le_refl c)
  obtain ⟨n', q', nn, b', l'⟩ := least_of n q n0 b
  obtain ⟨rfl, rfl⟩ := h.same c1 hp hm (turn_of hp hm b' l')
  omega
theorem Turn.small {c : Nat} {T : Int → Int} (c1 : 1 ≤ c) {m : Nat} {p : Int} (h : Turn c T p m) {B : Int} (hB : ∀ y, y - B * c ≤ T y ∧ T y ≤ y + B * c) : -(m * B) ≤ p ∧ p ≤ m * B := by
  obtain ⟨_, _, x, b⟩ := h
  have g : ∀ k : Nat, x - k * B * c ≤ itr T k x ∧ itr T k x ≤ x + k * B * c := fun k => by
    induction k with
    | zero =>
      rw [Int.natCast_zero, Int.zero_mul, Int.zero_mul]
      show x - 0 ≤ x ∧ x ≤ x + 0
      omega
    | succ k ih =>
      have := hB (itr T k x)
      rw [itr_snoc, Int.natCast_add, Int.natCast_one, Int.add_mul, Int.one_mul, Int.add_mul]
      omega
  have gm := g m
  have b' : itr T m x = x + p * c := b
  rw [b'] at gm
  have c0 : (0 : Int) < c := by omega
  refine ⟨Int.le_of_mul_le_mul_right (a := (c : Int)) ?_ c0, Int.le_of_mul_le_mul_right (a := (c : Int)) ?_ c0⟩
  · rw [Int.neg_mul]
    omega
  · omega
/-- the lap of a place -/
def Lap (c : Nat) (x l : Int) : Prop := l * c ≤ x ∧ x < (l + 1) * c
theorem lap_in {c : Nat} {x l h : Int} (c1 : 1 ≤ c) (h1 : l * c ≤ x) (h2 : x < (h + 1) * c) : ∃ k, l ≤ k ∧ k ≤ h ∧ Lap c x k := by
  have c0 : (0 : Int) < c := by omega
  obtain ⟨e1, e2⟩ := (div_iff c0).mp (rfl : x / (c : Int) = _)
  refine ⟨x / (c : Int), ?_, ?_, e1, e2⟩
  · exact (Int.le_ediv_iff_mul_le c0).mpr h1
  · have := (Int.ediv_lt_iff_lt_mul c0).mpr h2
    omega
theorem SpOk.llap {L : List Spn} {off a b : Nat} (S : SpOk L off a b) (of : off < a) {y l : Int} (h : Lap b y l) : ∃ k, l - 1 ≤ k ∧ k ≤ l + 2 ∧ Lap a (lE L a b y) k := by
  obtain ⟨q, m, k, e, hk⟩ := S.lmem y
  have qo := S.ok q m
  have h0 := S.lle (x := y) (k := l + 1) m (by have := h.2; omega)
  have lk : l ≤ k := by
    refine Classical.byContradiction fun z => ?_
    have := mul_mono (a := (b : Int)) (by omega) (show k + 1 ≤ l by omega)
    rw [Int.add_mul, Int.one_mul] at this
    have := h.1
    omega
  have ml := mul_mono (a := (a : Int)) (by omega) lk
  refine lap_in S.a1 ?_ ?_
  · rw [Int.sub_mul, Int.one_mul]
    omega
  · rw [show l + 2 + 1 = l + 3 by omega, Int.add_mul]
    rw [Int.add_mul, Int.one_mul] at h0
    omega
theorem SpOk.rlap {L : List Spn} {off a b : Nat} (S : SpOk L off a b) (of : off < a) {y l : Int} (h : Lap b y l) : ∃ k, l - 1 ≤ k ∧ k ≤ l + 2 ∧ Lap a (rE L a b y) k := by
  obtain ⟨q, m, k, e, hk⟩ := S.rmem y
  have qo := S.ok q m
  have h0 := S.rle (x := y) (k := l - 1) m (by have := h.1; rw [Int.sub_mul, Int.one_mul]; omega)
  have lk : k ≤ l := by
    refine Classical.byContradiction fun z => ?_
    have := mul_mono (a := (b : Int)) (by omega) (show l + 1 ≤ k by omega)
    have := h.2
    omega
  have ml := mul_mono (a := (a : Int)) (by omega) lk
  refine lap_in S.a1 ?_ ?_
  · rw [Int.sub_mul, Int.one_mul] at h0 ⊢
    omega
  · rw [show l + 2 + 1 = l + 3 by omega, Int.add_mul]
    omega
theorem walk_lap {size : Nat} {rs : List Rw} (h : OkCh size rs) {st : Nat → List Rw → Nat → Int → Int} (hst : st = lEnd ∨ st = rEnd) : ∀ (k i : Nat) (y l : Int), i < rs.length → Lap (cn size rs (i + 1)) y l → ∃ m, l - k ≤ m ∧ m ≤ l + 2 * k ∧ Lap (cn size rs (rowD rs.length false k i + 1)) (walkD rs.length (st size rs) false k i y) m
  | 0, i, y, l, _, hl => ⟨l, by omega, by omega, hl⟩
  | k + 1, i, y, l, il, hl => by
    have of := (h.row il).2.1.off
    have e5 : cn size rs (nxR rs.length false i + 1) = cn size rs i := by
      unfold nxR
      rw [if_neg (by decide)]
      by_cases z : i = 0
      · subst z
        rw [show 0 + rs.length - 1 = rs.length - 1 by omega, Nat.mod_eq_of_lt (show rs.length - 1 < rs.length by omega), show rs.length - 1 + 1 = rs.length by omega, h.wrap.1, h.wrap.2]
      · rw [show i + rs.length - 1 = (i - 1) + rs.length by omega, Nat.add_mod_right, Nat.mod_eq_of_lt (show i - 1 < rs.length by omega), show i - 1 + 1 = i by omega]
    obtain ⟨k1, a1, a2, a3⟩ : ∃ k1, l - 1 ≤ k1 ∧ k1 ≤ l + 2 ∧ Lap (cn size rs i) (st size rs i y) k1 := by
      rcases hst with rfl | rfl
      · exact (h.sp il).llap of hl
      · exact (h.sp il).rlap of hl
    rw [← e5] at a3
    obtain ⟨m, m1, m2, m3⟩ := walk_lap h hst k (nxR rs.length false i) (st size rs i y) k1 (nxR_lt (by omega) false i) a3
    exact ⟨m, by omega, by omega, m3⟩
/-- a round moves by few repeats -/
theorem round_near {size : Nat} {rs : List Rw} (h : OkCh size rs) {st : Nat → List Rw → Nat → Int → Int} (hst : st = lEnd ∨ st = rEnd) {i : Nat} (il : i < rs.length) (y : Int) : y - (2 * rs.length + 1 : Int) * (cn size rs (i + 1) : Int) ≤ walkD rs.length (st size rs) false rs.length i y ∧ walkD rs.length (st size rs) false rs.length i y ≤ y + (2 * rs.length + 1 : Int) * (cn size rs (i + 1) : Int) := by
  have c1 := (h.cn1 (i + 1)).1
  obtain ⟨l, hl⟩ : ∃ l, Lap (cn size rs (i + 1)) y l := ⟨_, (div_iff (show (0 : Int) < (cn size rs (i + 1) : Int) by omega)).mp rfl⟩
  obtain ⟨m, m1, m2, m3⟩ := walk_lap h hst rs.length i y l il hl
  rw [rowD_round false il] at m3
  have a1 := mul_mono (a := (cn size rs (i + 1) : Int)) (by omega) m1
  have a2 := mul_mono (a := (cn size rs (i + 1) : Int)) (by omega) m2
  have h1 := hl.1
  have h2 := hl.2
  have h3 := m3.1
  have h4 := m3.2
  rw [Int.add_mul, Int.one_mul] at h2 h4
  rw [Int.sub_mul] at a1
  rw [Int.add_mul] at a2
  rw [Int.add_mul, Int.one_mul]
  have nn : (0 : Int) ≤ (rs.length : Int) * (cn size rs (i + 1) : Int) := Int.mul_nonneg (by omega) (by omega)
  have n2 : (2 : Int) * (rs.length : Int) * (cn size rs (i + 1) : Int) = 2 * ((rs.length : Int) * (cn size rs (i + 1) : Int)) := Int.mul_assoc _ _ _
  omega
/-- any number of rows down -/
theorem rowD_downZ {n : Nat} (n0 : 0 < n) : ∀ (k i : Nat), i < n → ((rowD n false k i : Nat) : Int) = ((i : Int) - (k : Int)) % (n : Int)
  | 0, i, h => by
    show (i : Int) = ((i : Int) - 0) % (n : Int)
    rw [Int.sub_zero, Int.emod_eq_of_lt (by omega) (by omega)]
  | k + 1, i, h => by
    have ih := rowD_downZ n0 k (nxR n false i) (nxR_lt n0 false i)
    show ((rowD n false k (nxR n false i) : Nat) : Int) = _
    rw [ih]
    have e : ((nxR n false i : Nat) : Int) = ((i : Int) - 1) % (n : Int) := by
      unfold nxR
      rw [if_neg (by decide), Int.natCast_emod, ← Int.add_emod_right (i - 1)]
      congr 1
      omega
    rw [e, Int.sub_eq_add_neg, Int.emod_add_emod]
    congr 1
    omega
theorem lEnd_perK {size : Nat} {rs : List Rw} (h : OkCh size rs) {st : Nat → List Rw → Nat → Int → Int} (hst : st = lEnd ∨ st = rEnd) : Per rs.length (st size rs) false (fun i => cn size rs (i + 1)) := by
  rcases hst with rfl | rfl
  · exact lEnd_per h
  · exact rEnd_per h
/-- far below: whole rounds turn a place that comes back -/
theorem far_turn {size : Nat} {rs : List Rw} (h : OkCh size rs) {st : Nat → List Rw → Nat → Int → Int} (hst : st = lEnd ∨ st = rEnd) {p : Int} {m : Nat} (tn : Turn (cn size rs (0 + 1)) (fun y => walkD rs.length (st size rs) false rs.length 0 y) p m) {i : Nat} (il : i < rs.length) (z : Int) (r q : Nat) :
    walkD rs.length (st size rs) false (rs.length * cn size rs (i + 1) + r + m * q * rs.length) i z = walkD rs.length (st size rs) false (rs.length * cn size rs (i + 1) + r) i z + q * p * (cn size rs (rowD rs.length false (rs.length * cn size rs (i + 1) + r) i + 1) : Int) := by
  have per := lEnd_perK h hst
  have c1 := (h.cn1 (i + 1)).1
  have mono : Mono fun y => walkD rs.length (st size rs) false rs.length i y := by
    rcases hst with rfl | rfl
    · exact fun a b l => lEnd_mono h _ _ _ _ _ rfl il l
    · exact fun a b l => rEnd_mono h _ _ _ _ _ rfl il l
  obtain ⟨k, hk⟩ : ∃ k, rowD rs.length false k 0 = i := by
    by_cases e : i = 0
    · exact ⟨0, e.symm⟩
    · refine ⟨rs.length - i, ?_⟩
      rw [rowD_down _ 0 (by omega) (by omega), show 0 + rs.length - (rs.length - i) = i by omega, Nat.mod_eq_of_lt il]
  have ti := tn.row (k := k) per (by omega)
  rw [hk] at ti
  have bk := ti.all c1 (round_per per il) mono z (Nat.le_refl _)
  rw [← (walkD_round (st := st size rs) il (cn size rs (i + 1)) z).1] at bk
  have b2 := bk.row per r il
  have row1 : rowD rs.length false (rs.length * cn size rs (i + 1) + r) i = rowD rs.length false r i := by rw [rowD_add, (walkD_round (st := st size rs) (up := false) il (cn size rs (i + 1)) z).2]
  have w1 : walkD rs.length (st size rs) false (rs.length * cn size rs (i + 1) + r) i z = walkD rs.length (st size rs) false r i (walkD rs.length (st size rs) false (rs.length * cn size rs (i + 1)) i z) := by rw [walkD_add, (walkD_round (st := st size rs) (up := false) il (cn size rs (i + 1)) z).2]
  have jl := rowD_lt (n := rs.length) false r i il
  have b3 := b2.times (round_per per jl) q
  rw [walkD_add, row1, w1, show m * q * rs.length = rs.length * (q * m) by rw [Nat.mul_comm, Nat.mul_comm m q], (walkD_round (st := st size rs) jl (q * m) _).1]
  exact b3
end MZ
/-! _law_far_right -/
namespace S8
open PySem PySem.Spec PyProof.Rows L2 LK MXi MXq MY MZ
theorem dp_turns {K : PySem.W.Frag} {H : Hp} {v : V} {a b c d : Int} (h : Dp K H v (.tuple [.tuple [.int a, .int b], .tuple [.int c, .int d]])) : ∃ w p q, v = .ref w ∧ SqT K H w [.ref p, .ref q] ∧ SqT K H p [.int a, .int b] ∧ SqT K H q [.int c, .int d] := by
  cases h with
  | tup q r =>
    cases r with
    | cons h1 r =>
      cases r with
      | cons h2 r =>
        cases r
        obtain ⟨p, rfl, hp⟩ := dp_pair h1
        obtain ⟨p', rfl, hp'⟩ := dp_pair h2
        exact ⟨_, p, p', rfl, q, hp, hp'⟩
def turnsD (p1 : Int) (m1 : Nat) (p2 : Int) (m2 : Nat) : PyData := .tuple [.tuple [.int p1, .int m1], .tuple [.int p2, .int m2]]
def spFrt (K : PySem.W.Frag) (CC : Addr) : Sp := fun vs H Q _ => ∃ (c t x w : Addr), vs = [.ref c, .ref t, .ref x, .ref w] ∧ ∃ (Ld : Addr) (xs : List V) (size : Nat) (rs : List Rw) (p1 : Int) (m1 : Nat) (p2 : Int) (m2 : Nat) (B : Nat), Plan K H t Ld xs size rs ∧ OkCh size rs ∧ (∀ H', Bt c H H' → IsH K CC H' x size rs) ∧ Ld ≠ c ∧ (∀ z ∈ cnts size rs, z ≤ 8) ∧ rs.length ≤ 6 ∧
  Turn (cn size rs (0 + 1)) (fun y => walkD rs.length (lEnd size rs) false rs.length 0 y) p1 m1 ∧ Turn (cn size rs (0 + 1)) (fun y => walkD rs.length (rEnd size rs) false rs.length 0 y) p2 m2 ∧ Dp K H (.ref w) (turnsD p1 m1 p2 m2) ∧ CR H c B ∧ B + 100 < 10 ^ 12 ∧ ∀ H', CR H' c (B + 100) → Bt c H H' → Q (.bl true) H'
section
variable {P : Program} {w : World} {K : PySem.W.Frag} {mg : Str → Option Value} {base : Heap}
abbrev sFrt : Stmt := top 52
theorem scFrt : FnScope ["creel", "plan", "net", "whole_turns", "at", "mark", "high", "count", "lead", "west", "east", "k", "spot", "rounds", "width_more", "laps", "broad"] ["creel", "plan", "net", "whole_turns"] (defScope sFrt) := ⟨rfl, rfl, rfl, by decide +kernel, rfl, by decide +kernel, by decide +kernel⟩
theorem ok_Frt {f : Addr} {fd : FuncData} (F : Fun K "_law_far_right" "_law_far_right" sFrt f fd) (B : Bl mg) {CC : Addr}
    {f__law_spot : Addr} {d__law_spot : FuncData} (G__law_spot : FnOk P w K mg base CX0 2 f__law_spot d__law_spot ["creel", "plan"] (spSpo K)) (g__law_spot : mg "_law_spot" = some (.ref f__law_spot)) (k__law_spot : PySem.W.keepIn K (.ref f__law_spot) = true) (b__law_spot : Binds K d__law_spot ["creel", "plan"] [])
    {f__law_sums : Addr} {d__law_sums : FuncData} (G__law_sums : FnOk P w K mg base CX0 1 f__law_sums d__law_sums ["plan"] (spSum K)) (g__law_sums : mg "_law_sums" = some (.ref f__law_sums)) (k__law_sums : PySem.W.keepIn K (.ref f__law_sums) = true) (b__law_sums : Binds K d__law_sums ["plan"] [])
    {f__law_ply : Addr} {d__law_ply : FuncData} (G__law_ply : FnOk P w K mg base CX0 1 f__law_ply d__law_ply ["creel", "span"] spPly) (g__law_ply : mg "_law_ply" = some (.ref f__law_ply)) (k__law_ply : PySem.W.keepIn K (.ref f__law_ply) = true) (b__law_ply : Binds K d__law_ply ["creel", "span"] [])
    {f__law_low : Addr} {d__law_low : FuncData} (G__law_low : FnOk P w K mg base CX0 2 f__law_low d__law_low ["plan", "at", "mark"] (spLaE K lEnd)) (g__law_low : mg "_law_low" = some (.ref f__law_low)) (k__law_low : PySem.W.keepIn K (.ref f__law_low) = true) (b__law_low : Binds K d__law_low ["plan", "at", "mark"] [])
    {f__law_high : Addr} {d__law_high : FuncData} (G__law_high : FnOk P w K mg base CX0 2 f__law_high d__law_high ["plan", "at", "mark"] (spLaE K rEnd)) (g__law_high : mg "_law_high" = some (.ref f__law_high)) (k__law_high : PySem.W.keepIn K (.ref f__law_high) = true) (b__law_high : Binds K d__law_high ["plan", "at", "mark"] [])
    {f__law_matched : Addr} {d__law_matched : FuncData} (G__law_matched : FnOk P w K mg base CX0 6 f__law_matched d__law_matched ["found", "due"] (spM K 6)) (g__law_matched : mg "_law_matched" = some (.ref f__law_matched)) (k__law_matched : PySem.W.keepIn K (.ref f__law_matched) = true) (b__law_matched : Binds K d__law_matched ["found", "due"] [])
    {f_ends_at : Addr} {d_ends_at : FuncData} (G_ends_at : FnOk P w K mg base CX0 8 f_ends_at d_ends_at ["chart", "row", "left", "right", "rows"] (spEat K CC)) (g_ends_at : mg "ends_at" = some (.ref f_ends_at)) (k_ends_at : PySem.W.keepIn K (.ref f_ends_at) = true) (b_ends_at : Binds K d_ends_at ["chart", "row", "left", "right", "rows"] [])
    (G__law_plyB : FnOk P w K mg base CX0 1 f__law_ply d__law_ply ["creel", "span"] spPlyB) : FnOk P w K mg base CX0 9 f fd ["creel", "plan", "net", "whole_turns"] (spFrt K CC) := by
  refine F.ok scFrt (fun vs H Q E h => ?_) (fun cdv A outer s H vs Q E hr h => ?_)
  · obtain ⟨c, t, x, w, rfl, _⟩ := h
    rfl
  · obtain ⟨c, t, x, w, rfl, Ld, xs, size, rs, p1, m1, p2, m2, bb, pl, ok, ish, Lc, c8, r5, tL, tR, dw, hc, hB, k⟩ := h
    refine ⟨_, pss_cons (ps_asg (pe_call (E := E0) G__law_spot (hr.mono (by decide)) rfl g__law_spot k__law_spot b__law_spot .nil pass0 (pa_cons (pv 0) (pa_cons (pv 1) pa_nil))) (pg_tup rfl (pgs_cons (pg_name (i := 4) scFrt.nd rfl (Or.inl rfl)) (pgs_cons (pg_name (i := 5) scFrt.nd rfl (Or.inl rfl)) pgs_nil))))
      (pss_cons (ps_par (i := 6) (j := 7) rfl scFrt.nd rfl rfl (by decide) rfl rfl (pa_cons (pe_callB call_len_seq (by rfl) (B "len" (by decide)) (by decide +kernel) (pa_cons (pe_ix (ixt (K := K)) (pv 1) pe_int (fun _ _ => rfl)) pa_nil)) (pa_cons (pe_ix ix_list (pe_call (E := E0) G__law_sums (hr.mono (by decide)) rfl g__law_sums k__law_sums b__law_sums .nil pass0 (pa_cons (pv 1) pa_nil)) (pe_op op_add (pv 4) pe_int) (fun _ _ => rfl)) pa_nil)) (by rfl))
      (pss_cons (ps_set (i := 8) scFrt.nd rfl (Or.inl rfl) (pe_op op_add (pe_op op_mul (pv 6) (pv 7)) (pe_call (E := E0) G__law_ply (hr.mono (by decide)) rfl g__law_ply k__law_ply b__law_ply .nil pass0 (pa_cons (pv 0) (pa_cons (pe_op op_mul pe_int (pv 6)) pa_nil)))))
      (pss_cons (ps_par (i := 9) (j := 10) rfl scFrt.nd rfl rfl (by decide) rfl rfl (pa_cons (pv 5) (pa_cons (pv 5) pa_nil)) (by rfl))
      (pss_cons (ps_for PassesOwn.never rfl (pi_range1 (by rfl) (B "range" (by decide)) (pa_cons (pv 8) pa_nil)) (pg_name (i := 11) scFrt.nd rfl (Or.inl rfl)) (pss_cons (ps_set (i := 12) scFrt.nd rfl (Or.inl rfl) (pe_op op_mod (pe_callTy call_int1 (by rfl) (B "int" (by decide)) (by decide +kernel) (pa_cons (pe_op op_sub (pv 4) (pv 11)) pa_nil)) (pv 6)))
      (pss_one (ps_par (i := 9) (j := 10) rfl scFrt.nd rfl rfl (by decide) rfl rfl (pa_cons (pe_call (E := E0) G__law_low (hr.mono (by decide)) rfl g__law_low k__law_low b__law_low .nil pass0 (pa_cons (pv 1) (pa_cons (pv 12) (pa_cons (pv 9) pa_nil)))) (pa_cons (pe_call (E := E0) G__law_high (hr.mono (by decide)) rfl g__law_high k__law_high b__law_high .nil pass0 (pa_cons (pv 1) (pa_cons (pv 12) (pa_cons (pv 10) pa_nil)))) pa_nil)) (by rfl)))))
      (pss_cons (ps_set (i := 13) scFrt.nd rfl (Or.inl rfl) (pe_op op_mul (pe_op op_mul (pe_ix (ixt (K := K)) (pe_ix (ixt (K := K)) (pv 3) pe_int (fun _ _ => rfl)) pe_int (fun _ _ => rfl)) (pe_ix (ixt (K := K)) (pe_ix (ixt (K := K)) (pv 3) pe_int (fun _ _ => rfl)) pe_int (fun _ _ => rfl))) (pe_call (E := E0) G__law_plyB (hr.mono (by decide)) rfl g__law_ply k__law_ply b__law_ply .nil pass0 (pa_cons (pv 0) (pa_cons (pe_op op_pow pe_int pe_int) pa_nil)))))
      (pss_cons (ps_set (i := 7) scFrt.nd rfl (Or.inl rfl) (pe_ix ix_list (pe_call (E := E0) G__law_sums (hr.mono (by decide)) rfl g__law_sums k__law_sums b__law_sums .nil pass0 (pa_cons (pv 1) pa_nil)) (pe_op op_add (pe_op op_mod (pe_callTy call_int1 (by rfl) (B "int" (by decide)) (by decide +kernel) (pa_cons (pe_op op_sub (pv 4) (pv 8)) pa_nil)) (pv 6)) pe_int) (fun _ _ => rfl)))
      (pss_cons (ps_set (i := 9) scFrt.nd rfl (Or.inl rfl) (pe_op op_add (pv 9) (pe_op op_mul (pe_op op_mul (pe_op op_fdivW (pv 13) (pe_ix (ixt (K := K)) (pe_ix (ixt (K := K)) (pv 3) pe_int (fun _ _ => rfl)) pe_int (fun _ _ => rfl))) (pe_ix (ixt (K := K)) (pe_ix (ixt (K := K)) (pv 3) pe_int (fun _ _ => rfl)) pe_int (fun _ _ => rfl))) (pv 7))))
      (pss_cons (ps_set (i := 10) scFrt.nd rfl (Or.inl rfl) (pe_op op_add (pv 10) (pe_op op_mul (pe_op op_mul (pe_op op_fdivW (pv 13) (pe_ix (ixt (K := K)) (pe_ix (ixt (K := K)) (pv 3) pe_int (fun _ _ => rfl)) pe_int (fun _ _ => rfl))) (pe_ix (ixt (K := K)) (pe_ix (ixt (K := K)) (pv 3) pe_int (fun _ _ => rfl)) pe_int (fun _ _ => rfl))) (pv 7))))
      (pss_cons (ps_set (i := 14) scFrt.nd rfl (Or.inl rfl) (pe_op op_add (pe_callB (call_max2 rfl) (by rfl) (B "max" (by decide)) (by decide +kernel) (pa_cons pe_int (pa_cons (pe_op op_sub (pv 9) (pv 10)) pa_nil))) (pe_op op_mul (pe_call (E := E0) G__law_ply (hr.mono (by decide)) rfl g__law_ply k__law_ply b__law_ply .nil pass0 (pa_cons (pv 0) (pa_cons pe_int pa_nil))) (pv 7))))
      (pss_cons (ps_set (i := 15) scFrt.nd rfl (Or.inl rfl) (pe_un un_neg (pe_op op_fdivW (pe_un un_neg (pv 14)) (pv 7))))
      (pss_cons (ps_set (i := 16) scFrt.nd rfl (Or.inl rfl) (pe_op op_add (pv 5) (pe_op op_mul (pv 15) (pe_ix ix_list (pe_call (E := E0) G__law_sums (hr.mono (by decide)) rfl g__law_sums k__law_sums b__law_sums .nil pass0 (pa_cons (pv 1) pa_nil)) (pe_op op_add (pv 4) pe_int) (fun _ _ => rfl)))))
      (pss_one (ps_ret (pe_call (E := E0) G__law_matched (hr.mono (by decide)) rfl g__law_matched k__law_matched b__law_matched .nil pass0 (pa_cons (pe_call (E := E0) G_ends_at (hr.mono (by decide)) rfl g_ends_at k_ends_at b_ends_at .nil pass0 (pa_cons (pv 2) (pa_cons (pv 4) (pa_cons (pv 5) (pa_cons (pv 16) (pa_cons (pe_op op_add (pv 8) (pe_op op_mul (pv 13) (pv 6))) pa_nil)))))) (pa_cons (pe_tup (pa_cons (pv 9) (pa_cons (pe_op op_add (pv 10) (pe_op op_mul (pv 15) (pv 7))) pa_nil))) pa_nil)))))))))))))))), ?_⟩
    have ty2 : sizeLine = 16777216 := sizeLine_eq
    have rl := ok.rl
    have xl := dps_len pl.dL
    rw [List.length_map] at xl
    have few : rs.length ≤ 1000 ∧ ∀ r ∈ rs, r.sts.length ≤ 1000 := ⟨by omega, ok.few⟩
    have c9 : ∀ j, cn size rs j ≤ 8 := fun j => by
      unfold cn
      cases e : (cnts size rs)[j]? with
      | none => exact (by decide : 1 ≤ 8)
      | some a => exact c8 a (List.mem_of_getElem? e)
    have i0 : 0 < rs.length := by omega
    have cc1 := ok.cn1 (0 + 1)
    have ml1 := tL.le cc1.1 (round_per (lEnd_per ok) i0) (fun a b l => lEnd_mono ok _ _ _ _ _ rfl i0 l)
    have ml2 := tR.le cc1.1 (round_per (rEnd_per ok) i0) (fun a b l => rEnd_mono ok _ _ _ _ _ rfl i0 l)
    have sm1 := tL.small cc1.1 (fun y => round_near ok (.inl rfl) i0 y)
    have sm2 := tR.small cc1.1 (fun y => round_near ok (.inr rfl) i0 y)
    have cc8 := c9 (0 + 1)
    have m10 := tL.1
    have m20 := tR.1
    have pb1 : -1000 ≤ p1 ∧ p1 ≤ 1000 := by
      have a1 := Int.mul_le_mul_of_nonneg_left (show (2 * (rs.length : Int) + 1) ≤ 13 by omega) (show (0 : Int) ≤ m1 by omega)
      omega
    have pb2 : -1000 ≤ p2 ∧ p2 ≤ 1000 := by
      have a1 := Int.mul_le_mul_of_nonneg_left (show (2 * (rs.length : Int) + 1) ≤ 13 by omega) (show (0 : Int) ≤ m2 by omega)
      omega
    refine ⟨_, rfl, _, rfl, c, t, Ld, xs, size, rs, _, rfl, pl, rl.1, by omega, hc, by omega, fun q H1 i z c1 b1 eq il => ?_⟩
    refine ⟨q, _, rfl, SqT.of eq, rfl, ?_⟩
    refine ⟨_, _, rfl, _, _, rfl, rfl, ?_⟩
    have pl1 := pl.bt hc Lc b1
    obtain ⟨_, okr, _, ec1, ec2⟩ := ok.row il
    have bi := ok.cn1 (i + 1)
    have bi8 := c9 (i + 1)
    dsimp only [gName, gCons, gNil, List.set, tSeq]
    refine ⟨_, rfl, t, _, 1, _, rfl, rfl, SqT.of pl1.et, atI_nat (j := 1) rfl, Ld, _, rfl, .inl (SqL.of pl1.eL), ?_⟩
    rw [xl]
    refine ⟨_, rfl, t, Ld, xs, size, rs, rfl, pl1, few, fun p H2 np s2 ep => ?_⟩
    refine ⟨_, rfl, _, _, rfl, rfl, p, _, ((i + 1 : Nat) : Int), .int (cn size rs (i + 1) : Int), rfl, by rfl, SqL.of ep, atI_nat (nI_get ec2), ?_⟩
    refine ⟨_, _, rfl, ?_⟩
    have c2 := c1.same s2
    have b2 := b1.trans (Bt.of (c := c) s2)
    dsimp only [gName, List.set, tSeq]
    refine ⟨_, rfl, _, rfl, _, _, rfl, rfl, .inl ⟨by omega, by omega⟩, _, rfl, _, rfl, _, _, rfl, rfl, .inl ⟨by decide, by decide⟩, c, _, _, rfl, by omega, by omega, c2, by omega, fun d H3 d0 d1 c3 b3 _ => ⟨_, _, rfl, rfl, ?_⟩⟩
    obtain ⟨r0, rfl⟩ := Int.eq_ofNat_of_zero_le d0
    have b03 := b2.trans b3
    have pl3 := pl.bt hc Lc b03
    dsimp only [gName, List.set, tSeq]
    obtain ⟨ld, hld⟩ : ∃ ld : Nat, rs.length * cn size rs (i + 1) + r0 = ld := ⟨_, rfl⟩
    have eld : (rs.length : Int) * (cn size rs (i + 1) : Int) + (r0 : Int) = (ld : Int) := by
      rw [← hld, Int.natCast_add, Int.natCast_mul]
    have ld60 : ld ≤ 100 := by
      have := Nat.mul_le_mul r5 bi8
      omega
    rw [eld]
    refine ⟨_, rfl, _, rfl, _, _, rfl, ?_⟩
    dsimp only [gName, List.set, tSeq]
    refine stJ (fun σ Hm => ∃ (o11 o12 o13 o14 o15 o16 : Option V), σ = [some (.ref c), some (.ref t), some (.ref x), some (.ref w), some (.int (i : Int)), some (.int z), some (.int (rs.length : Int)), some (.int (cn size rs (i + 1) : Int)), some (.int (ld : Int)), some (.int (walkD rs.length (lEnd size rs) false ld i z)), some (.int (walkD rs.length (rEnd size rs) false ld i z)), o11, o12, o13, o14, o15, o16] ∧ Same H3 Hm) (fun D2 aft2 => ?_) ?_
    · refine ⟨_, rfl, (ld : Int), rfl, by omega, by omega, ?_⟩
      rw [Int.toNat_natCast]
      refine for_range (lo := 0) (n := ld) (fun m σ Hm => ∃ (o11 o12 o13 o14 o15 o16 : Option V), σ = [some (.ref c), some (.ref t), some (.ref x), some (.ref w), some (.int (i : Int)), some (.int z), some (.int (rs.length : Int)), some (.int (cn size rs (i + 1) : Int)), some (.int (ld : Int)), some (.int (walkD rs.length (lEnd size rs) false m i z)), some (.int (walkD rs.length (rEnd size rs) false m i z)), o11, o12, o13, o14, o15, o16] ∧ Same H3 Hm)
        ⟨_, _, _, _, _, _, rfl, Same.refl _⟩ (fun m σ Hm hm hI => ?_) (fun σ Hm hI => ?_)
      · obtain ⟨o11, o12, o13, o14, o15, o16, rfl, sm⟩ := hI
        dsimp only [gName, List.set, tSeq]
        have sl := rowD_lt (n := rs.length) false m i il
        have se : ((i : Int) - (0 + (m : Int))) % (rs.length : Int) = ((rowD rs.length false m i : Nat) : Int) := by
          rw [rowD_downZ i0 m i il, Int.zero_add]
        refine ⟨_, rfl, _, rfl, _, _, rfl, rfl, .inl ⟨_, rfl, _, rfl, _, _, rfl, rfl, by show (0 : Int) < (rs.length : Int); omega, ?_⟩⟩
        dsimp only [gName, List.set, tSeq]
        rw [se]
        have plm := pl3.same sm
        have w1 : walkD rs.length (lEnd size rs) false (m + 1) i z = lEnd size rs (rowD rs.length false m i) (walkD rs.length (lEnd size rs) false m i z) := walkD_add m 1 i z
        have w2 : walkD rs.length (rEnd size rs) false (m + 1) i z = rEnd size rs (rowD rs.length false m i) (walkD rs.length (rEnd size rs) false m i z) := walkD_add m 1 i z
        refine ⟨_, rfl, _, rfl, _, rfl, t, Ld, xs, _, _, size, rs, rfl, plm, ok, sl, fun H5 s5 => ?_⟩
        refine ⟨_, rfl, _, rfl, _, rfl, t, Ld, xs, _, _, size, rs, rfl, plm.same s5, ok, sl, fun H6 s6 => ?_⟩
        refine ⟨_, _, rfl, ?_⟩
        rw [← w1, ← w2]
        exact ⟨_, _, _, _, _, _, rfl, (sm.trans s5).trans s6⟩
      · obtain ⟨o11, o12, o13, o14, o15, o16, rfl, sm⟩ := hI
        exact aft2 _ _ ⟨_, _, _, _, _, _, rfl, sm⟩
    rintro σ Hm ⟨o11, o12, o13, o14, o15, o16, rfl, sm⟩
    have b0m := b03.trans (Bt.of (c := c) sm)
    have cm := c3.same sm
    have plm := pl.bt hc Lc b0m
    have dwm : Dp K Hm (.ref w) (turnsD p1 m1 p2 m2) := dp_tl (Tl.bt hc b0m) (by rfl) dw
    obtain ⟨w', pp, qq, ew, hw, hp, hq⟩ := dp_turns dwm
    cases ew
    dsimp only [tSeq]
    refine ⟨_, rfl, w, _, 0, _, rfl, rfl, hw, atI_nat (j := 0) rfl, pp, _, 1, _, rfl, rfl, hp, atI_nat (j := 1) rfl, _, rfl, w, _, 1, _, rfl, rfl, hw, atI_nat (j := 1) rfl, qq, _, 1, _, rfl, rfl, hq, atI_nat (j := 1) rfl, _, _, rfl, rfl, .inl ⟨by omega, by omega⟩, _, rfl, _, _, rfl, rfl, ⟨by decide, by decide, by decide⟩, c, _, _, rfl, by decide, by decide, cm, by omega, fun dd H7 e0 _ c7 b7 _ => ⟨_, _, rfl, rfl, ?_⟩⟩
    obtain ⟨rd, rfl⟩ := Int.eq_ofNat_of_zero_le e0
    have mm64 : (m1 : Int) * (m2 : Int) ≤ 64 := by
      have := Nat.mul_le_mul (show m1 ≤ 8 by omega) (show m2 ≤ 8 by omega)
      have e : ((m1 * m2 : Nat) : Int) = (m1 : Int) * (m2 : Int) := Int.natCast_mul _ _
      omega
    have mm0 : 0 ≤ (m1 : Int) * (m2 : Int) := Int.mul_nonneg (by omega) (by omega)
    refine ⟨.inl ⟨by omega, by omega⟩, ?_⟩
    obtain ⟨rn, hrn⟩ : ∃ rn : Nat, m1 * (m2 * rd) = rn := ⟨_, rfl⟩
    have ern : (m1 : Int) * (m2 : Int) * (rd : Int) = (rn : Int) := by rw [← hrn, Int.natCast_mul, Int.natCast_mul, Int.mul_assoc]
    have q1 : (rn : Int) / (m1 : Int) = ((m2 * rd : Nat) : Int) := by
      rw [← hrn, Int.natCast_mul]
      exact Int.mul_ediv_cancel_left _ (by omega)
    have q2 : (rn : Int) / (m2 : Int) = ((m1 * rd : Nat) : Int) := by
      rw [← hrn, show m1 * (m2 * rd) = m2 * (m1 * rd) by rw [← Nat.mul_assoc, Nat.mul_comm m1 m2, Nat.mul_assoc], Int.natCast_mul]
      exact Int.mul_ediv_cancel_left _ (by omega)
    have b07 := b0m.trans b7
    have pl7 := pl.bt hc Lc b07
    have dw7 : Dp K H7 (.ref w) (turnsD p1 m1 p2 m2) := dp_tl (Tl.bt hc b07) (by rfl) dw
    clear hw hp hq dwm
    obtain ⟨w', pp', qq', ew, hw, hp, hq⟩ := dp_turns dw7
    cases ew
    dsimp only
    rw [ern]
    dsimp only [gName, List.set, tSeq]
    -- count
    refine ⟨_, rfl, t, Ld, xs, size, rs, rfl, pl7, few, fun p8 H8 np8 s8 ep8 => ?_⟩
    have sl := rowD_lt (n := rs.length) false ld i il
    have se := rowD_downZ i0 ld i il
    obtain ⟨r, hr'⟩ : ∃ r, rowD rs.length false ld i = r := ⟨_, rfl⟩
    rw [hr'] at sl se
    obtain ⟨_, okr2, _, fc1, fc2⟩ := ok.row sl
    have br := ok.cn1 (r + 1)
    have br8 := c9 (r + 1)
    refine ⟨_, rfl, _, rfl, _, _, rfl, rfl, .inl ⟨_, rfl, _, rfl, _, _, rfl, rfl, by show (0 : Int) < (rs.length : Int); omega, ?_⟩⟩
    dsimp only
    rw [← se]
    refine ⟨_, _, rfl, rfl, p8, _, ((r + 1 : Nat) : Int), .int (cn size rs (r + 1) : Int), rfl, by rfl, SqL.of ep8, atI_nat (nI_get fc2), ?_⟩
    dsimp only [gName, List.set, tSeq]
    have hw8 := same_tup s8 hw
    have hp8 := same_tup s8 hp
    have hq8 := same_tup s8 hq
    refine ⟨_, rfl, _, rfl, _, rfl, w, _, 0, _, rfl, rfl, hw8, atI_nat (j := 0) rfl, pp', _, 1, _, rfl, rfl, hp8, atI_nat (j := 1) rfl, _, _, rfl, rfl, wide_div (b := 20) (by omega) (by omega) (by decide) (by decide), _, rfl, w, _, 0, _, rfl, rfl, hw8, atI_nat (j := 0) rfl, pp', _, 0, _, rfl, rfl, hp8, atI_nat (j := 0) rfl, _, _, rfl, rfl, .inr ⟨by omega, by omega⟩, _, rfl, _, _, rfl, rfl, .inr ⟨by omega, by omega⟩, _, _, rfl, rfl, ?_⟩
    dsimp only [gName, List.set, tSeq]
    refine ⟨_, rfl, _, rfl, _, rfl, w, _, 1, _, rfl, rfl, hw8, atI_nat (j := 1) rfl, qq', _, 1, _, rfl, rfl, hq8, atI_nat (j := 1) rfl, _, _, rfl, rfl, wide_div (b := 20) (by omega) (by omega) (by decide) (by decide), _, rfl, w, _, 1, _, rfl, rfl, hw8, atI_nat (j := 1) rfl, qq', _, 0, _, rfl, rfl, hq8, atI_nat (j := 0) rfl, _, _, rfl, rfl, .inr ⟨by omega, by omega⟩, _, rfl, _, _, rfl, rfl, .inr ⟨by omega, by omega⟩, _, _, rfl, rfl, ?_⟩
    dsimp only [gName, List.set, tSeq]
    rw [q1, q2]
    have fl := far_turn ok (.inl rfl) tL il z r0 (m2 * rd)
    have fr := far_turn ok (.inr rfl) tR il z r0 (m1 * rd)
    rw [hld, hr', hrn] at fl
    rw [hld, hr', show m2 * (m1 * rd) = rn by rw [← hrn, ← Nat.mul_assoc, Nat.mul_comm m2 m1, Nat.mul_assoc]] at fr
    rw [← fl, ← fr]
    generalize hWw : walkD rs.length (lEnd size rs) false (ld + rn * rs.length) i z = Ww
    generalize hEe : walkD rs.length (rEnd size rs) false (ld + rn * rs.length) i z = Ee
    refine ⟨_, rfl, _, rfl, _, _, rfl, rfl, _, _, rfl, ?_⟩
    dsimp only
    obtain ⟨mx, hmx, x0, x1⟩ : ∃ mx : Int, (if Ww - Ee > 0 then Ww - Ee else 0) = mx ∧ 0 ≤ mx ∧ Ww - Ee ≤ mx := ⟨_, rfl, by split <;> omega, by split <;> omega⟩
    rw [hmx]
    have d8 := c7.same s8
    refine ⟨_, rfl, c, 9, _, rfl, by decide, by decide, d8, by omega, fun e H9 e0' e1' d9 b9 _ => ?_⟩
    refine ⟨_, rfl, _, _, rfl, rfl, .inr ⟨by omega, by omega⟩, _, _, rfl, rfl, ?_⟩
    dsimp only [gName, List.set, tSeq]
    have ecr : 0 ≤ e * (cn size rs (r + 1) : Int) := Int.mul_nonneg e0' (by omega)
    obtain ⟨wm, hwm⟩ : ∃ wm : Int, mx + e * (cn size rs (r + 1) : Int) = wm := ⟨_, rfl⟩
    rw [hwm]
    refine ⟨_, rfl, _, rfl, _, rfl, _, _, rfl, rfl, wide_div (b := 20) (by omega) (by omega) (by decide) (by decide), _, rfl, ?_⟩
    dsimp only [gName, List.set, tSeq]
    obtain ⟨dd1, dd2⟩ := (div_iff (show (0 : Int) < (cn size rs (r + 1) : Int) by omega)).mp (rfl : -wm / (cn size rs (r + 1) : Int) = _)
    obtain ⟨lp, hlp⟩ : ∃ lp : Int, -(-wm / (cn size rs (r + 1) : Int)) = lp := ⟨_, rfl⟩
    rw [show -wm / (cn size rs (r + 1) : Int) = -lp by omega, Int.neg_mul] at dd1
    rw [hlp]
    have b09 := b07.trans ((Bt.of (c := c) s8).trans b9)
    have pl9 := pl.bt hc Lc b09
    refine ⟨_, rfl, _, rfl, _, rfl, t, Ld, xs, size, rs, rfl, pl9, few, fun p10 H10 np10 s10 ep10 => ?_⟩
    refine ⟨_, rfl, _, _, rfl, rfl, p10, _, ((i + 1 : Nat) : Int), .int (cn size rs (i + 1) : Int), rfl, by rfl, SqL.of ep10, atI_nat (nI_get ec2), _, _, rfl, rfl, .inr ⟨by omega, by omega⟩, _, _, rfl, rfl, ?_⟩
    dsimp only [gName, List.set, tSeq]
    have b010 := b09.trans (Bt.of (c := c) s10)
    have row2 : rowD rs.length false (ld + rn * rs.length) i = r := by
      rw [rowD_add, hr', Nat.mul_comm]
      exact (walkD_round (st := lEnd size rs) (up := false) sl rn z).2
    have eb := walkD_per (rEnd_per ok) (ld + rn * rs.length) i z lp il
    rw [row2, hEe] at eb
    refine ⟨_, rfl, _, rfl, _, rfl, _, rfl, _, rfl, _, rfl, _, rfl, _, _, rfl, rfl, .inr ⟨by omega, by omega⟩, _, _, rfl, rfl, x, i, z, z + lp * (cn size rs (i + 1) : Int), ld + rn * rs.length, size, rs, ?_, ish _ b010, ok, il, fun v H11 s11 dv => ?_⟩
    · rw [Int.natCast_add, Int.natCast_mul]
      rfl
    unfold endsD at dv
    rw [hWw, eb, if_pos (by omega)] at dv
    refine ⟨_, rfl, _, rfl, _, rfl, _, rfl, _, _, rfl, rfl, .inr ⟨by omega, by omega⟩, _, _, rfl, rfl, by show 2 ≤ sizeLine; decide, fun u nu => ?_⟩
    have tu := same_new (o := .tup [.int Ww, .int (Ee + lp * (cn size rs (r + 1) : Int))]) nu
    refine ⟨v, .ref u, .tuple [.int Ww, .int (Ee + lp * (cn size rs (r + 1) : Int))], rfl, dp_same tu dv, .tup (SqT.of upd_same) (.cons (.int _) (.cons (.int _) .nil)), rfl, by show 1 < 6; decide, by show 1 ≤ 60; decide, rfl, fun H12 s12 => ?_⟩
    have s912 := s10.trans (s11.trans (tu.trans s12))
    exact k _ ((d9.same s912).mono (by omega)) (b09.trans (Bt.of s912))
end
end S8
/-! a case -/
namespace S8
open PySem PySem.Spec PyProof.Rows L2 LK MXi MXq MY MZ
theorem fw1_eq {α : Type} {a : α} : fwN 1 [] [a] = [a] := rfl
def spCas : Sp := fun vs H Q _ => ∃ (c : Addr) (B : Nat), vs = [.ref c] ∧ CR H c B ∧ B + 60000 < 10 ^ 12 ∧ ∀ H', CR H' c (B + 60000) → Bt c H H' → Q (.bl true) H'
section
variable {P : Program} {w : World} {K : PySem.W.Frag} {mg : Str → Option Value} {base : Heap}
abbrev sCas : Stmt := top 53
theorem scCas : FnScope ["creel", "plan", "net", "whole_turns", "turn_v", "at", "mark", "east", "deep", "due", "told"] ["creel"] (defScope sCas) := ⟨rfl, rfl, rfl, by decide +kernel, rfl, by decide +kernel, by decide +kernel⟩
theorem ok_Cas {f : Addr} {fd : FuncData} (F : Fun K "_law_case_right" "_law_case_right" sCas f fd) (B : Bl mg) {CC : Addr} (N : Ch2 P w K mg base CC)
    {f__law_plan : Addr} {d__law_plan : FuncData} (G__law_plan : FnOk P w K mg base CX0 3 f__law_plan d__law_plan ["creel", "most", "rows_most"] (spPln K)) (g__law_plan : mg "_law_plan" = some (.ref f__law_plan)) (k__law_plan : PySem.W.keepIn K (.ref f__law_plan) = true) (b__law_plan : Binds K d__law_plan ["creel", "most", "rows_most"] [])
    {f__law_spot : Addr} {d__law_spot : FuncData} (G__law_spot : FnOk P w K mg base CX0 2 f__law_spot d__law_spot ["creel", "plan"] (spSpo K)) (g__law_spot : mg "_law_spot" = some (.ref f__law_spot)) (k__law_spot : PySem.W.keepIn K (.ref f__law_spot) = true) (b__law_spot : Binds K d__law_spot ["creel", "plan"] [])
    {f__law_ply : Addr} {d__law_ply : FuncData} (G__law_ply : FnOk P w K mg base CX0 1 f__law_ply d__law_ply ["creel", "span"] spPly) (g__law_ply : mg "_law_ply" = some (.ref f__law_ply)) (k__law_ply : PySem.W.keepIn K (.ref f__law_ply) = true) (b__law_ply : Binds K d__law_ply ["creel", "span"] [])
    {f__law_turn : Addr} {d__law_turn : FuncData} (G__law_turn : FnOk P w K mg base CX0 3 f__law_turn d__law_turn ["plan", "side"] (spLtn K)) (g__law_turn : mg "_law_turn" = some (.ref f__law_turn)) (k__law_turn : PySem.W.keepIn K (.ref f__law_turn) = true) (b__law_turn : Binds K d__law_turn ["plan", "side"] [])
    {f__law_fall : Addr} {d__law_fall : FuncData} (G__law_fall : FnOk P w K mg base CX0 3 f__law_fall d__law_fall ["plan", "at", "west", "east", "deep"] (spFal K)) (g__law_fall : mg "_law_fall" = some (.ref f__law_fall)) (k__law_fall : PySem.W.keepIn K (.ref f__law_fall) = true) (b__law_fall : Binds K d__law_fall ["plan", "at", "west", "east", "deep"] [])
    {f__law_far_right : Addr} {d__law_far_right : FuncData} (G__law_far_right : FnOk P w K mg base CX0 9 f__law_far_right d__law_far_right ["creel", "plan", "net", "whole_turns"] (spFrt K CC)) (g__law_far_right : mg "_law_far_right" = some (.ref f__law_far_right)) (k__law_far_right : PySem.W.keepIn K (.ref f__law_far_right) = true) (b__law_far_right : Binds K d__law_far_right ["creel", "plan", "net", "whole_turns"] [])
    {f__law_matched : Addr} {d__law_matched : FuncData} (G__law_matched : FnOk P w K mg base CX0 6 f__law_matched d__law_matched ["found", "due"] (spM K 6)) (g__law_matched : mg "_law_matched" = some (.ref f__law_matched)) (k__law_matched : PySem.W.keepIn K (.ref f__law_matched) = true) (b__law_matched : Binds K d__law_matched ["found", "due"] [])
    {f_turns : Addr} {d_turns : FuncData} (G_turns : FnOk P w K mg base CX0 7 f_turns d_turns ["chart"] (spTns K CC)) (g_turns : mg "turns" = some (.ref f_turns)) (k_turns : PySem.W.keepIn K (.ref f_turns) = true) (b_turns : Binds K d_turns ["chart"] [])
    {f_ends_at : Addr} {d_ends_at : FuncData} (G_ends_at : FnOk P w K mg base CX0 8 f_ends_at d_ends_at ["chart", "row", "left", "right", "rows"] (spEat K CC)) (g_ends_at : mg "ends_at" = some (.ref f_ends_at)) (k_ends_at : PySem.W.keepIn K (.ref f_ends_at) = true) (b_ends_at : Binds K d_ends_at ["chart", "row", "left", "right", "rows"] []) (q_ends_at : KBinds K d_ends_at ["chart", "row", "left", "right", "rows"] ["rows", "right", "left", "row", "chart"] rv5 rv5) (q_turns : KBinds K d_turns ["chart"] ["chart"] (fwN 1) (fwN 1)) : FnOk P w K mg base CX0 10 f fd ["creel"] spCas := by
  refine F.ok scCas (fun vs H Q E h => ?_) (fun cdv A outer s H vs Q E hr h => ?_)
  · obtain ⟨c, bb, rfl, _⟩ := h
    rfl
  · obtain ⟨c, bb, rfl, hc, hB, k⟩ := h
    refine ⟨_, pss_cons (ps_set (i := 1) scCas.nd rfl (Or.inl rfl) (pe_call (E := E0) G__law_plan (hr.mono (by decide)) rfl g__law_plan k__law_plan b__law_plan .nil pass0 (pa_cons (pv 0) (pa_cons pe_int (pa_cons pe_int pa_nil)))))
      (pss_cons (ps_set (i := 2) scCas.nd rfl (Or.inl rfl) (pe_make N.mC N.oC (hr.mono (by decide)) rfl N.gC N.bC .nil pass0 (pa_cons (pe_ix (ixt (K := K)) (pv 1) pe_int (fun _ _ => rfl)) (pa_cons (pe_ix (ixt (K := K)) (pv 1) pe_int (fun _ _ => rfl)) pa_nil))))
      (pss_cons (ps_set (i := 3) scCas.nd rfl (Or.inl rfl) (pe_tup (pa_cons (pe_call (E := E0) G__law_turn (hr.mono (by decide)) rfl g__law_turn k__law_turn b__law_turn .nil pass0 (pa_cons (pv 1) (pa_cons pe_int pa_nil))) (pa_cons (pe_call (E := E0) G__law_turn (hr.mono (by decide)) rfl g__law_turn k__law_turn b__law_turn .nil pass0 (pa_cons (pv 1) (pa_cons pe_int pa_nil))) pa_nil))))
      (pss_cons (ps_if (pt_not (pt_val (pe_call (E := E0) G__law_matched (hr.mono (by decide)) rfl g__law_matched k__law_matched b__law_matched .nil pass0 (pa_cons (pe_lst (pa_cons (pe_call (E := E0) G_turns (hr.mono (by decide)) rfl g_turns k_turns b_turns .nil pass0 (pa_cons (pv 2) pa_nil)) (pa_cons (pe_callK0 (E := E0) G_turns (hr.mono (by decide)) rfl g_turns k_turns q_turns pass0 (pk_cons (pv 2) pk_nil)) pa_nil))) (pa_cons (pe_lst (pa_cons (pv 3) (pa_cons (pv 3) pa_nil))) pa_nil))))) (pss_one (ps_ret pe_bl)) pss_nil)
      (pss_cons (ps_for PassesOwn.never rfl (pi_range1 (by rfl) (B "range" (by decide)) (pa_cons pe_int pa_nil)) (pg_name (i := 4) scCas.nd rfl (Or.inl rfl)) (pss_cons (ps_asg (pe_call (E := E0) G__law_spot (hr.mono (by decide)) rfl g__law_spot k__law_spot b__law_spot .nil pass0 (pa_cons (pv 0) (pa_cons (pv 1) pa_nil))) (pg_tup rfl (pgs_cons (pg_name (i := 5) scCas.nd rfl (Or.inl rfl)) (pgs_cons (pg_name (i := 6) scCas.nd rfl (Or.inl rfl)) pgs_nil))))
      (pss_cons (ps_set (i := 7) scCas.nd rfl (Or.inl rfl) (pe_op op_add (pv 6) (pe_ix ix_list (pe_lst (pa_cons pe_int (pa_cons (pe_call (E := E0) G__law_ply (hr.mono (by decide)) rfl g__law_ply k__law_ply b__law_ply .nil pass0 (pa_cons (pv 0) (pa_cons pe_int pa_nil))) (pa_cons (pe_call (E := E0) G__law_ply (hr.mono (by decide)) rfl g__law_ply k__law_ply b__law_ply .nil pass0 (pa_cons (pv 0) (pa_cons pe_int pa_nil))) pa_nil)))) (pe_call (E := E0) G__law_ply (hr.mono (by decide)) rfl g__law_ply k__law_ply b__law_ply .nil pass0 (pa_cons (pv 0) (pa_cons pe_int pa_nil))) (fun _ _ => rfl))))
      (pss_cons (ps_set (i := 8) scCas.nd rfl (Or.inl rfl) (pe_ix ix_list (pe_lst (pa_cons pe_int (pa_cons pe_int (pa_cons (pe_call (E := E0) G__law_ply (hr.mono (by decide)) rfl g__law_ply k__law_ply b__law_ply .nil pass0 (pa_cons (pv 0) (pa_cons pe_int pa_nil))) (pa_cons (pe_call (E := E0) G__law_ply (hr.mono (by decide)) rfl g__law_ply k__law_ply b__law_ply .nil pass0 (pa_cons (pv 0) (pa_cons pe_int pa_nil))) pa_nil))))) (pe_call (E := E0) G__law_ply (hr.mono (by decide)) rfl g__law_ply k__law_ply b__law_ply .nil pass0 (pa_cons (pv 0) (pa_cons pe_int pa_nil))) (fun _ _ => rfl)))
      (pss_cons (ps_set (i := 9) scCas.nd rfl (Or.inl rfl) (pe_call (E := E0) G__law_fall (hr.mono (by decide)) rfl g__law_fall k__law_fall b__law_fall .nil pass0 (pa_cons (pv 1) (pa_cons (pv 5) (pa_cons (pv 6) (pa_cons (pv 7) (pa_cons (pv 8) pa_nil)))))))
      (pss_cons (ps_set (i := 9) scCas.nd rfl (Or.inl rfl) (pe_ifExp (pt_cmpR op_isN (pv 9) pe_non (nomark _)) (pv 9) (pe_slice sl_tup (pv 9) (po_some pe_int) po_none)))
      (pss_cons (ps_set (i := 10) scCas.nd rfl (Or.inl rfl) (pe_lst (pa_cons (pe_call (E := E0) G_ends_at (hr.mono (by decide)) rfl g_ends_at k_ends_at b_ends_at .nil pass0 (pa_cons (pv 2) (pa_cons (pv 5) (pa_cons (pv 6) (pa_cons (pv 7) (pa_cons (pv 8) pa_nil)))))) (pa_cons (pe_callK0 (E := E0) G_ends_at (hr.mono (by decide)) rfl g_ends_at k_ends_at q_ends_at pass0 (pk_cons (pv 8) (pk_cons (pv 7) (pk_cons (pv 6) (pk_cons (pv 5) (pk_cons (pv 2) pk_nil)))))) pa_nil))))
      (pss_one (ps_if (pt_not (pt_val (pe_call (E := E0) G__law_matched (hr.mono (by decide)) rfl g__law_matched k__law_matched b__law_matched .nil pass0 (pa_cons (pv 10) (pa_cons (pe_lst (pa_cons (pv 9) (pa_cons (pv 9) pa_nil))) pa_nil))))) (pss_one (ps_ret pe_bl)) pss_nil)))))))))
      (pss_one (ps_ret (pe_call (E := E0) G__law_far_right (hr.mono (by decide)) rfl g__law_far_right k__law_far_right b__law_far_right .nil pass0 (pa_cons (pv 0) (pa_cons (pv 1) (pa_cons (pv 2) (pa_cons (pv 3) pa_nil))))))))))), ?_⟩
    have ty2 : sizeLine = 16777216 := sizeLine_eq
    refine ⟨_, rfl, c, 8, 5, bb, rfl, by decide, by decide, by decide, by decide, hc, by omega, fun t Ld H1 xs size rs c1 b1 pl cc rl1 rl2 nL Lc => ?_⟩
    have ok : OkCh size rs := ⟨pl.rows, fun z m => by have := cc z m; omega, rl1, by omega⟩
    have ne : rs ≠ [] := fun e => by rw [e] at rl1; exact absurd rl1 (by decide)
    have s1 : 1 ≤ size := (cc size List.mem_cons_self).1
    have few0 : rs.length ≤ 1000 ∧ ∀ r ∈ rs, r.sts.length ≤ 1000 := ⟨by omega, ok.few⟩
    have cc8 : ∀ z ∈ cnts size rs, z ≤ 8 := fun z m => (cc z m).2
    have i0 : 0 < rs.length := by omega
    have cc1 := ok.cn1 (0 + 1)
    dsimp only [gName, List.set, tSeq]
    refine ⟨_, rfl, t, _, 0, _, rfl, rfl, SqT.of pl.et, atI_nat (j := 0) rfl, _, rfl, t, _, 1, _, rfl, rfl, SqT.of pl.et, atI_nat (j := 1) rfl, ?_⟩
    intro x dx nx ndx nex
    refine chart_new (SqL.of pl.eL) pl.dL pl.rows ne few0 s1 nx ndx fun H2 s2 _ isx => ⟨rfl, ?_⟩
    have isb := isx c _ c1
    have c3 := c1.same s2
    have b3 := b1.trans (Bt.of (c := c) s2)
    have pl3 := pl.same s2
    have isb3 : ∀ H', Bt c H2 H' → IsH K CC H' x size rs := isb
    clear isb nx ndx nex c1 b1 pl s2
    dsimp only [gName, List.set, tSeq]
    refine ⟨_, rfl, t, Ld, xs, 0, size, rs, lEnd, rfl, pl3, ok, .inl ⟨rfl, rfl⟩, fun d1 H3 p1 m1 s3 tL e1 => ?_⟩
    refine ⟨_, rfl, t, Ld, xs, 1, size, rs, rEnd, rfl, pl3.same s3, ok, .inr ⟨rfl, rfl⟩, fun d2 H4 p2 m2 s4 tR e2 => ?_⟩
    refine ⟨by show 2 ≤ sizeLine; decide, fun w nw => ?_⟩
    have tw := same_new (o := .tup [.ref d1, .ref d2]) nw
    have ew := upd_same (H := H4) (a := w) (o := .tup [.ref d1, .ref d2])
    have s25 := s3.trans (s4.trans tw)
    have e1w := tw _ _ (s4 _ _ e1)
    have e2w := tw _ _ e2
    generalize upd H4 w (.tup [.ref d1, .ref d2]) = H5 at ew s25 e1w e2w
    have dw : Dp K H5 (.ref w) (turnsD p1 m1 p2 m2) := .tup (SqT.of ew) (.cons (.tup (SqT.of e1w) (.cons (.int _) (.cons (.int _) .nil))) (.cons (.tup (SqT.of e2w) (.cons (.int _) (.cons (.int _) .nil))) .nil))
    have is5 := isb3 _ (Bt.of (c := c) s25)
    dsimp only [gName, List.set, tSeq]
    have same_ : ∀ {q1 q2 : Int} {n1 n2 : Nat}, Turn (cn size rs (0 + 1)) (fun y => walkD rs.length (lEnd size rs) false rs.length 0 y) q1 n1 → Turn (cn size rs (0 + 1)) (fun y => walkD rs.length (rEnd size rs) false rs.length 0 y) q2 n2 → turnsD q1 n1 q2 n2 = turnsD p1 m1 p2 m2 := fun h1 h2 => by
      obtain ⟨rfl, rfl⟩ := h1.same cc1.1 (round_per (lEnd_per ok) i0) (fun a b l => lEnd_mono ok _ _ _ _ _ rfl i0 l) tL
      obtain ⟨rfl, rfl⟩ := h2.same cc1.1 (round_per (rEnd_per ok) i0) (fun a b l => rEnd_mono ok _ _ _ _ _ rfl i0 l) tR
      rfl
    refine ⟨_, rfl, x, size, rs, rfl, is5, ok, fun d3 H6 q1 n1 q2 n2 s6 u1 u2 dv1 => ?_⟩
    change Dp K H6 (.ref d3) (turnsD q1 n1 q2 n2) at dv1
    rw [same_ u1 u2] at dv1
    clear u1 u2
    refine ⟨_, rfl, ?_⟩
    dsimp only [tNil, List.cons_append, List.nil_append]
    rw [fw1_eq]
    refine ⟨x, size, rs, rfl, is5.same s6, ok, fun d4 H7 q3 n3 q4 n4 s7 u1 u2 dv2 => ?_⟩
    change Dp K H7 (.ref d4) (turnsD q3 n3 q4 n4) at dv2
    rw [same_ u1 u2] at dv2
    clear u1 u2
    refine ⟨by show 2 ≤ sizeLine; decide, fun A nA => ?_⟩
    have tA := same_new (o := .lst [.ref d3, .ref d4]) nA
    have eA := upd_same (H := H7) (a := A) (o := .lst [.ref d3, .ref d4])
    refine ⟨_, rfl, _, rfl, by show 2 ≤ sizeLine; decide, fun A2 nA2 => ?_⟩
    have tA2 := same_new (o := .lst [.ref w, .ref w]) nA2
    have s58 := (s6.trans s7).trans (tA.trans tA2)
    refine ⟨.ref A, .ref A2, .list [turnsD p1 m1 p2 m2, turnsD p1 m1 p2 m2], rfl, .lst (SqL.of (tA2 _ _ eA)) (.cons (dp_same (s7.trans (tA.trans tA2)) dv1) (.cons (dp_same (tA.trans tA2) dv2) .nil)), .lst (SqL.of upd_same) (.cons (dp_same s58 dw) (.cons (dp_same s58 dw) .nil)), rfl, by show 3 < 6; decide, by show 3 ≤ 60; decide, rfl, fun H9 s9 => ⟨_, rfl, LK.ifF rfl ?_⟩⟩
    have s29 := s25.trans (s58.trans s9)
    have dw9 := dp_same (s58.trans s9) dw
    have c9' := c3.same s29
    have pl9 := pl3.same s29
    have isb9 : ∀ H', Bt c H9 H' → IsH K CC H' x size rs := fun H' b => isb3 H' ((Bt.of (c := c) s29).trans b)
    have b9 := b3.trans (Bt.of (c := c) s29)
    dsimp only [tNext, tSeq]
    refine stR (fun σ Hn => ∃ (o4 o5 o6 o7 o8 o9 o10 : Option V), σ = [some (.ref c), some (.ref t), some (.ref x), some (.ref w), o4, o5, o6, o7, o8, o9, o10] ∧ Bt c H9 Hn ∧ CR Hn c (bb + 41000)) (fun D' ret aft => ?_) ?_
    · refine ⟨4, rfl, by decide, by decide, ?_⟩
      refine for_range (lo := 0) (n := 4) (fun j σ Hn => ∃ (o4 o5 o6 o7 o8 o9 o10 : Option V), σ = [some (.ref c), some (.ref t), some (.ref x), some (.ref w), o4, o5, o6, o7, o8, o9, o10] ∧ Bt c H9 Hn ∧ CR Hn c (bb + 40000 + 100 * j))
        ⟨_, _, _, _, _, _, _, rfl, Bt.refl _ _, c9'.mono (by omega)⟩ (fun j σ Hn hj hI => ?_) (fun σ Hn hI => ?_)
      · obtain ⟨o4, o5, o6, o7, o8, o9, o10, rfl, bn, crn⟩ := hI
        have pln := pl9.bt c9' Lc bn
        dsimp only [gName, List.set, tSeq]
        refine ⟨_, rfl, _, rfl, c, t, Ld, xs, size, rs, _, rfl, pln, rl1, by omega, crn, by omega, fun q H10 i z c10 b10 eq il => ?_⟩
        refine ⟨q, _, rfl, SqT.of eq, rfl, ?_⟩
        refine ⟨_, _, rfl, _, _, rfl, rfl, ?_⟩
        dsimp only [gName, gCons, gNil, List.set, tSeq]
        refine ⟨_, rfl, _, rfl, c, 6, _, rfl, by decide, by decide, c10, by omega, fun a1 H14 m10 m11 c14 b14 _ => ?_⟩
        refine ⟨_, rfl, c, 40, _, rfl, by decide, by decide, c14, by omega, fun a2 H15 m20 m21 c15 b15 _ => ?_⟩
        refine ⟨by show 3 ≤ sizeLine; decide, fun D nD => ?_⟩
        have tD := same_new (o := .lst [.int 0, .int a1, .int a2]) nD
        have eD := upd_same (H := H15) (a := D) (o := .lst [.int 0, .int a1, .int a2])
        have Dc := cr_ne c15 nD
        have c16 := c15.same tD
        refine ⟨_, rfl, c, 3, _, rfl, by decide, by decide, c16, by omega, fun d H17 d0 d1' c17 b17 _ => ?_⟩
        have b017 := (bn.trans b10).trans (b14.trans (b15.trans ((Bt.of (c := c) tD).trans b17)))
        obtain ⟨lh, hlh, l1, l2⟩ : ∃ lh : Int, atI [V.int 0, .int a1, .int a2] d = some (.int lh) ∧ 0 ≤ lh ∧ lh ≤ 39 := by
          obtain ⟨dn, rfl⟩ := Int.eq_ofNat_of_zero_le d0
          match dn, d1' with
          | 0, _ => exact ⟨_, atI_nat (j := 0) rfl, by omega, by omega⟩
          | 1, _ => exact ⟨_, atI_nat (j := 1) rfl, by omega, by omega⟩
          | 2, _ => exact ⟨_, atI_nat (j := 2) rfl, by omega, by omega⟩
          | n + 3, h => exact absurd h (by omega)
        refine ⟨D, _, _, .int lh, rfl, rfl, SqL.of (b17 _ _ Dc eD), hlh, _, _, rfl, rfl, ?_⟩
        obtain ⟨ea, hea⟩ : ∃ ea : Int, z + lh = ea := ⟨_, rfl⟩
        dsimp only [gName, List.set, tSeq]
        rw [hea]
        clear hlh eD tD nD Dc
        refine ⟨_, rfl, c, 12, _, rfl, by decide, by decide, c17, by omega, fun m3 H18 m30 m31 c18 b18 _ => ?_⟩
        refine ⟨_, rfl, c, 40, _, rfl, by decide, by decide, c18, by omega, fun m4 H19 m40 m41 c19 b19 _ => ?_⟩
        refine ⟨by show 4 ≤ sizeLine; decide, fun D nD => ?_⟩
        have tD := same_new (o := .lst [.int 0, .int 1, .int m3, .int m4]) nD
        have eD := upd_same (H := H19) (a := D) (o := .lst [.int 0, .int 1, .int m3, .int m4])
        have Dc := cr_ne c19 nD
        have c20 := c19.same tD
        refine ⟨_, rfl, c, 4, _, rfl, by decide, by decide, c20, by omega, fun d' H21 d0' d1'' c21 b21 _ => ?_⟩
        have b021 := (b017.trans b18).trans (b19.trans ((Bt.of (c := c) tD).trans b21))
        obtain ⟨deep, hde, de⟩ : ∃ deep : Nat, atI [V.int 0, .int 1, .int m3, .int m4] d' = some (.int (deep : Int)) ∧ deep ≤ 40 := by
          obtain ⟨dn, rfl⟩ := Int.eq_ofNat_of_zero_le d0'
          obtain ⟨n3, rfl⟩ := Int.eq_ofNat_of_zero_le m30
          obtain ⟨n4, rfl⟩ := Int.eq_ofNat_of_zero_le m40
          match dn, d1'' with
          | 0, _ => exact ⟨0, atI_nat (j := 0) rfl, by omega⟩
          | 1, _ => exact ⟨1, atI_nat (j := 1) rfl, by omega⟩
          | 2, _ => exact ⟨n3, atI_nat (j := 2) rfl, by omega⟩
          | 3, _ => exact ⟨n4, atI_nat (j := 3) rfl, by omega⟩
          | n + 4, h => exact absurd h (by omega)
        refine ⟨D, _, _, .int (deep : Int), rfl, rfl, SqL.of (b21 _ _ Dc eD), hde, ?_⟩
        dsimp only [gName, List.set, tSeq]
        clear hde eD tD nD Dc
        have pl21 := pl9.bt c9' Lc b021
        have is21 := isb9 _ b021
        refine ⟨_, rfl, _, rfl, _, rfl, _, rfl, _, rfl, t, Ld, xs, i, z, ea, deep, size, rs, rfl, pl21, ok, il, cc8, de, by omega, by omega, fun v H22 s22 dv => ?_⟩
        obtain ⟨lo, hlo⟩ : ∃ lo, walkD rs.length (lEnd size rs) false deep i z = lo := ⟨_, rfl⟩
        obtain ⟨hi, hhi⟩ : ∃ hi, walkD rs.length (rEnd size rs) false deep i ea = hi := ⟨_, rfl⟩
        rw [hlo, hhi] at dv
        dsimp only [gName, List.set, tSeq]
        refine exK (fun u Hu => Same H22 Hu ∧ Dp K Hu u (endsD lo hi)) (fun Q' hq => ?_) (fun u H23 hu => ?_)
        · unfold fallD at dv
          unfold endsD at hq
          by_cases le : lo ≤ hi
          · rw [if_pos le] at dv
            rw [if_pos le] at hq
            cases dv with
            | tup q2 r2 =>
              obtain rfl := ints_back (ns := [(rowD rs.length false deep i : Nat), lo, hi]) r2
              refine ⟨_, rfl, rfl, _, rfl, LK.ifF (decide_eq_false fun z => nomatch z) ?_⟩
              refine ⟨_, rfl, _, rfl, _, _, rfl, q2, fun z => absurd z.1 (by show ¬ HT.sIx 3 0 (some 1) = 0; decide), fun p np => hq _ _ ⟨same_new np, ?_⟩⟩
              exact .tup (xs := [.int lo, .int hi]) (SqT.of (by rw [upd_same]; rfl)) (.cons (.int _) (.cons (.int _) .nil))
          · rw [if_neg le] at dv
            rw [if_neg le] at hq
            cases dv
            exact ⟨_, rfl, rfl, _, rfl, LK.ifT rfl ⟨_, rfl, hq _ _ ⟨Same.refl _, .non⟩⟩⟩
        obtain ⟨s23, du⟩ := hu
        have s2123 := s22.trans s23
        have is23 := is21.same s2123
        dsimp only [gName, List.set, tSeq]
        have g1 : ∀ a b : Int, (PyData.list [endsD a b, endsD a b]).canLay0 = true ∧ (PyData.list [endsD a b, endsD a b]).depth < 6 ∧ (PyData.list [endsD a b, endsD a b]).depth ≤ 60 ∧ few (.list [endsD a b, endsD a b]) = true := fun a b => by
          unfold endsD
          split
          · exact ⟨rfl, by show 2 < 6; decide, by show 2 ≤ 60; decide, rfl⟩
          · exact ⟨rfl, by show 1 < 6; decide, by show 1 ≤ 60; decide, rfl⟩
        obtain ⟨f1, f2, f3, f4⟩ := g1 lo hi
        refine ⟨_, rfl, _, rfl, _, rfl, _, rfl, _, rfl, x, i, z, ea, deep, size, rs, rfl, is23, ok, il, fun v1 H24 s24 dv1 => ?_⟩
        rw [hlo, hhi] at dv1
        refine ⟨_, rfl, _, rfl, _, rfl, _, rfl, _, rfl, ?_⟩
        dsimp only [tNil, List.cons_append, List.nil_append]
        rw [rv5_eq]
        refine ⟨x, i, z, ea, deep, size, rs, rfl, is23.same s24, ok, il, fun v2 H25 s25' dv2 => ?_⟩
        rw [hlo, hhi] at dv2
        refine ⟨by show 2 ≤ sizeLine; decide, fun A5 nA5 => ?_⟩
        have tA5 := same_new (o := .lst [v1, v2]) nA5
        have eA5 := upd_same (H := H25) (a := A5) (o := .lst [v1, v2])
        dsimp only [gName, List.set, tSeq]
        refine ⟨_, rfl, _, rfl, _, rfl, by show 2 ≤ sizeLine; decide, fun A6 nA6 => ?_⟩
        have tA6 := same_new (o := .lst [u, u]) nA6
        have s2326 := (s24.trans s25').trans (tA5.trans tA6)
        refine ⟨.ref A5, .ref A6, .list [endsD lo hi, endsD lo hi], rfl, .lst (SqL.of (tA6 _ _ eA5)) (.cons (dp_same (s25'.trans (tA5.trans tA6)) dv1) (.cons (dp_same (tA5.trans tA6) dv2) .nil)), .lst (SqL.of upd_same) (.cons (dp_same s2326 du) (.cons (dp_same s2326 du) .nil)), f1, f2, f3, f4, fun H27 s27 => ⟨_, rfl, LK.ifF rfl ?_⟩⟩
        have s2127 := s2123.trans (s2326.trans s27)
        exact ⟨_, _, _, _, _, _, _, rfl, b021.trans (Bt.of s2127), (c21.same s2127).mono (by omega)⟩
      · obtain ⟨o4, o5, o6, o7, o8, o9, o10, rfl, bn, crn⟩ := hI
        exact aft _ _ ⟨_, _, _, _, _, _, _, rfl, bn, crn.mono (by omega)⟩
    rintro σ Hn ⟨o4, o5, o6, o7, o8, o9, o10, rfl, bn, crn⟩
    have dwn : Dp K Hn (.ref w) (turnsD p1 m1 p2 m2) := dp_tl (Tl.bt c9' bn) (by rfl) dw9
    refine ⟨_, rfl, _, rfl, _, rfl, _, rfl, c, t, x, w, rfl, Ld, xs, size, rs, p1, m1, p2, m2, bb + 41000, pl9.bt c9' Lc bn, ok, fun H' b => isb9 H' (bn.trans b), Lc, cc8, by omega, tL, tR, dwn, crn, by omega, fun H' cH bH => ?_⟩
    exact k _ (cH.mono (by omega)) (b9.trans (bn.trans bH))
end
end S8
/-! law -/
namespace S8
open PySem PySem.Spec PyProof.Rows L2 LK MXi MXq MY MZ
def spLaw (K : PySem.W.Frag) : Sp := fun vs H Q _ => ∃ (a : Addr) (ns : List Int), vs = [.ref a] ∧ SqL K H a (ns.map V.int) ∧ ns.length ≤ 63 ∧ ∀ H', Q (.bl true) H'
section
variable {P : Program} {w : World} {K : PySem.W.Frag} {mg : Str → Option Value} {base : Heap}
abbrev sLaw : Stmt := top 54
theorem scLaw : FnScope ["script", "at", "creel", "turn_v"] ["script"] (defScope sLaw) := ⟨rfl, rfl, rfl, by decide +kernel, rfl, by decide +kernel, by decide +kernel⟩
theorem ok_Law {f : Addr} {fd : FuncData} (F : Fun K "law" "law" sLaw f fd) (B : Bl mg)
    {f__law_creel : Addr} {d__law_creel : FuncData} (G__law_creel : FnOk P w K mg base CX0 1 f__law_creel d__law_creel ["script", "at"] (spCreel K)) (g__law_creel : mg "_law_creel" = some (.ref f__law_creel)) (k__law_creel : PySem.W.keepIn K (.ref f__law_creel) = true) (b__law_creel : Binds K d__law_creel ["script", "at"] [])
    {f__law_case_right : Addr} {d__law_case_right : FuncData} (G__law_case_right : FnOk P w K mg base CX0 10 f__law_case_right d__law_case_right ["creel"] spCas) (g__law_case_right : mg "_law_case_right" = some (.ref f__law_case_right)) (k__law_case_right : PySem.W.keepIn K (.ref f__law_case_right) = true) (b__law_case_right : Binds K d__law_case_right ["creel"] []) : FnOk P w K mg base CX0 11 f fd ["script"] (spLaw K) := by
  refine F.ok scLaw (fun vs H Q E h => ?_) (fun cdv A outer s H vs Q E hr h => ?_)
  · obtain ⟨a, ns, rfl, _⟩ := h
    rfl
  · obtain ⟨a, ns, rfl, hs, hn, k⟩ := h
    refine ⟨_, pss_cons (ps_for PassesOwn.never rfl (pi_range1 (by rfl) (B "range" (by decide)) (pa_cons (pe_callB (call_max2 rfl) (by rfl) (B "max" (by decide)) (by decide +kernel) (pa_cons pe_int (pa_cons (pe_callB (call_min2 rfl) (by rfl) (B "min" (by decide)) (by decide +kernel) (pa_cons pe_int (pa_cons (pe_callB call_len_seq (by rfl) (B "len" (by decide)) (by decide +kernel) (pa_cons (pv 0) pa_nil)) pa_nil))) pa_nil))) pa_nil)) (pg_name (i := 1) scLaw.nd rfl (Or.inl rfl)) (pss_cons (ps_set (i := 2) scLaw.nd rfl (Or.inl rfl) (pe_call (E := E0) G__law_creel (hr.mono (by decide)) rfl g__law_creel k__law_creel b__law_creel .nil pass0 (pa_cons (pv 0) (pa_cons (pv 1) pa_nil))))
      (pss_one (ps_for PassesOwn.never rfl (pi_range1 (by rfl) (B "range" (by decide)) (pa_cons pe_int pa_nil)) (pg_name (i := 3) scLaw.nd rfl (Or.inl rfl)) (pss_one (ps_if (pt_not (pt_val (pe_call (E := E0) G__law_case_right (hr.mono (by decide)) rfl g__law_case_right k__law_case_right b__law_case_right .nil pass0 (pa_cons (pv 2) pa_nil)))) (pss_one (ps_ret pe_bl)) pss_nil))))))
      (pss_one (ps_ret pe_bl)), ?_⟩
    have ty2 : sizeLine = 16777216 := sizeLine_eq
    dsimp only [tSeq]
    refine ⟨_, rfl, a, _, rfl, .inl hs, ?_⟩
    rw [List.length_map]
    refine ⟨_, _, rfl, ?_⟩
    refine ⟨_, _, rfl, ?_⟩
    refine ⟨_, rfl, ?_, ?_, ?_⟩
    · (repeat' split) <;> omega
    · (repeat' split) <;> omega
    refine for_range (lo := 0) (n := _) (fun i σ H' => ∃ (y1 y2 y3 : Option V), σ = [some (.ref a), y1, y2, y3] ∧ Same H H')
      ⟨_, _, _, rfl, Same.refl H⟩ (fun i σ H1 hi hI => ?_) (fun σ H1 hI => ?_)
    · obtain ⟨y1, y2, y3, rfl, s1⟩ := hI
      have i4 : i ≤ 1000 := by
        (repeat' split at hi) <;> omega
      dsimp only [gName, List.set, tSeq]
      refine ⟨_, rfl, _, rfl, a, ns, i, by simp, s1.seq hs, i4, fun c H2 nc c2 s2 => ?_⟩
      have nc0 : H c = none := gone s1 nc
      refine ⟨4, rfl, by decide, by decide, ?_⟩
      refine for_range (lo := 0) (n := 4) (fun j σ Hn => ∃ (y3 : Option V), σ = [some (.ref a), some (.int (0 + (i : Int))), some (.ref c), y3] ∧ Bt c H2 Hn ∧ CR Hn c (1000 + 60000 * j))
        ⟨_, rfl, Bt.refl _ _, c2.mono (by omega)⟩ (fun j σ Hn hj hI => ?_) (fun σ Hn hI => ?_)
      · obtain ⟨y3, rfl, bn, cn⟩ := hI
        dsimp only [gName, List.set]
        refine ⟨_, rfl, c, 1000 + 60000 * j, rfl, cn, by omega, fun H3 c3 b3 => ?_⟩
        exact ⟨_, rfl, LK.ifF rfl ⟨_, rfl, bn.trans b3, c3.mono (by omega)⟩⟩
      · obtain ⟨y3, rfl, bn, cn⟩ := hI
        exact ⟨_, _, _, rfl, fun b o e => bn _ _ (ne_none e nc0) (s2 _ _ (s1 _ _ e))⟩
    · obtain ⟨y1, y2, y3, rfl, s1⟩ := hI
      exact k _
end
end S8
namespace S8
open PySem PySem.Spec PyProof.Rows L2 LK MXi MXq MY MZ 
/-- the facts of the class -/
def chkH (K : PySem.W.Frag) (C : Addr) : Bool :=
  PySem.W.plainGet K C Str.empty && (PySem.W.hasDictIn K C && (PySem.W.plainOver K C && (decide (PySem.W.findIn K (.ref C) "__setattr__" = some (some (.builtin "object.__setattr__"))) &&
  (decide (PySem.W.findIn K (.ref C) "_counts" = some none) && (decide (PySem.W.findIn K (.ref C) "_rows" = some none) && (decide (PySem.W.findIn K (.ref C) "__class__" = some (some (.builtin "object.__class__"))) &&
  (decide (PySem.W.specialIn K (.builtin "object.__class__") "__get__" = some (some (.builtin "getset_descriptor.__get__"))) && (decide (PySem.W.takesIn K (.builtin "object.__class__") = some true) && (decide (PySem.W.mroIn K C (.type "object") = some true) &&
  decide (PySem.W.kitOne K (.ref C) (.ref C) = some true))))))))))
theorem chkH_of {K : PySem.W.Frag} {C : Addr} (h : chkH K C = true) : Cls K C ∧ NoAttr K C "_counts" ∧ NoAttr K C "_rows" ∧ True := by
  unfold chkH at h
  simp only [Bool.and_eq_true, decide_eq_true_eq] at h
  obtain ⟨h1, h2, h3, h4, h5, h6, h7, h8, h9, h10, h11⟩ := h
  have c : Cls K C := ⟨h1, h2, h3, h4⟩
  exact ⟨c, h5, h6, trivial⟩
def chkP (K : PySem.W.Frag) (p : Addr) : Bool := decide (PySem.W.specialIn K (.ref p) "__get__" = some (some (.builtin "property.__get__"))) && decide (PySem.W.takesIn K (.ref p) = some true)
theorem prp_of {K : PySem.W.Frag} {C p g : Addr} {f : Str} {rest : List Value} (a : PySem.W.findIn K (.ref C) f = some (some (.ref p))) (r : PySem.W.recIn K p "property" = some (.ref g :: rest)) (h : chkP K p = true) : PropOf K C f p g := by
  unfold chkP at h
  simp only [Bool.and_eq_true, decide_eq_true_eq] at h
  exact ⟨a, h.1, h.2, _, r⟩
def chkN (K : PySem.W.Frag) : Bool := blts.all fun n => decide (PySem.W.nsIn K mainGlobals n = some none)

theorem all_mk {P : Program} {w : World} {K : PySem.W.Frag} {h : Heap} {mg : Str → Option Value} {fa CC p_W p_R p_K f_ply f_cre f_int f_num f_thr f_yar f_mat f_csz f_ist f_ics f_icr f_cnr f_crw f_cwd f_spa f_lfe f_rge f_wlk f_shf f_rep f_rdt f_far f_eat f_trn f_tns f_stc f_pln f_sum f_mks f_spo f_low f_hig f_dip f_fal f_ltn f_frt f_cas f_law f_ini f_len f_W f_R f_K : Addr} {tLT tMS : Tok} {r_W r_R r_K : List Value} (X : K.In h) (G : h.Ns mainGlobals mg) (hfa : mg "law" = some (.ref fa))
    {od_ply an_ply : Option Addr} {sl_ply : Array (Option Value)} {oc_ply kV_ply dc_ply pm_ply cd_ply ct_ply : Value}
    {od_cre an_cre : Option Addr} {sl_cre : Array (Option Value)} {oc_cre kV_cre dc_cre pm_cre cd_cre ct_cre : Value}
    {od_int an_int : Option Addr} {sl_int : Array (Option Value)} {oc_int kV_int dc_int pm_int cd_int ct_int : Value}
    {od_num an_num : Option Addr} {sl_num : Array (Option Value)} {oc_num kV_num dc_num pm_num cd_num ct_num : Value}
    {od_thr an_thr : Option Addr} {sl_thr : Array (Option Value)} {oc_thr kV_thr dc_thr pm_thr cd_thr ct_thr : Value}
    {od_yar an_yar : Option Addr} {sl_yar : Array (Option Value)} {oc_yar kV_yar dc_yar pm_yar cd_yar ct_yar : Value}
    {od_mat an_mat : Option Addr} {sl_mat : Array (Option Value)} {oc_mat kV_mat dc_mat pm_mat cd_mat ct_mat : Value}
    {od_csz an_csz : Option Addr} {sl_csz : Array (Option Value)} {oc_csz kV_csz dc_csz pm_csz cd_csz ct_csz : Value}
    {od_ist an_ist : Option Addr} {sl_ist : Array (Option Value)} {oc_ist kV_ist dc_ist pm_ist cd_ist ct_ist : Value}
    {od_ics an_ics : Option Addr} {sl_ics : Array (Option Value)} {oc_ics kV_ics dc_ics pm_ics cd_ics ct_ics : Value}
    {od_icr an_icr : Option Addr} {sl_icr : Array (Option Value)} {oc_icr kV_icr dc_icr pm_icr cd_icr ct_icr : Value}
    {od_cnr an_cnr : Option Addr} {sl_cnr : Array (Option Value)} {oc_cnr kV_cnr dc_cnr pm_cnr cd_cnr ct_cnr : Value}
    {od_crw an_crw : Option Addr} {sl_crw : Array (Option Value)} {oc_crw kV_crw dc_crw pm_crw cd_crw ct_crw : Value}
    {od_cwd an_cwd : Option Addr} {sl_cwd : Array (Option Value)} {oc_cwd kV_cwd dc_cwd pm_cwd cd_cwd ct_cwd : Value}
    {od_spa an_spa : Option Addr} {sl_spa : Array (Option Value)} {oc_spa kV_spa dc_spa pm_spa cd_spa ct_spa : Value}
    {od_lfe an_lfe : Option Addr} {sl_lfe : Array (Option Value)} {oc_lfe kV_lfe dc_lfe pm_lfe cd_lfe ct_lfe : Value}
    {od_rge an_rge : Option Addr} {sl_rge : Array (Option Value)} {oc_rge kV_rge dc_rge pm_rge cd_rge ct_rge : Value}
    {od_wlk an_wlk : Option Addr} {sl_wlk : Array (Option Value)} {oc_wlk kV_wlk dc_wlk pm_wlk cd_wlk ct_wlk : Value}
    {od_shf an_shf : Option Addr} {sl_shf : Array (Option Value)} {oc_shf kV_shf dc_shf pm_shf cd_shf ct_shf : Value}
    {od_rep an_rep : Option Addr} {sl_rep : Array (Option Value)} {oc_rep kV_rep dc_rep pm_rep cd_rep ct_rep : Value}
    {od_rdt an_rdt : Option Addr} {sl_rdt : Array (Option Value)} {oc_rdt kV_rdt dc_rdt pm_rdt cd_rdt ct_rdt : Value}
    {od_far an_far : Option Addr} {sl_far : Array (Option Value)} {oc_far kV_far dc_far pm_far cd_far ct_far : Value}
    {od_eat an_eat : Option Addr} {sl_eat : Array (Option Value)} {oc_eat kV_eat dc_eat pm_eat cd_eat ct_eat : Value}
    {od_trn an_trn : Option Addr} {sl_trn : Array (Option Value)} {oc_trn kV_trn dc_trn pm_trn cd_trn ct_trn : Value}
    {od_tns an_tns : Option Addr} {sl_tns : Array (Option Value)} {oc_tns kV_tns dc_tns pm_tns cd_tns ct_tns : Value}
    {od_stc an_stc : Option Addr} {sl_stc : Array (Option Value)} {oc_stc kV_stc dc_stc pm_stc cd_stc ct_stc : Value}
    {od_pln an_pln : Option Addr} {sl_pln : Array (Option Value)} {oc_pln kV_pln dc_pln pm_pln cd_pln ct_pln : Value}
    {od_sum an_sum : Option Addr} {sl_sum : Array (Option Value)} {oc_sum kV_sum dc_sum pm_sum cd_sum ct_sum : Value}
    {od_mks an_mks : Option Addr} {sl_mks : Array (Option Value)} {oc_mks kV_mks dc_mks pm_mks cd_mks ct_mks : Value}
    {od_spo an_spo : Option Addr} {sl_spo : Array (Option Value)} {oc_spo kV_spo dc_spo pm_spo cd_spo ct_spo : Value}
    {od_low an_low : Option Addr} {sl_low : Array (Option Value)} {oc_low kV_low dc_low pm_low cd_low ct_low : Value}
    {od_hig an_hig : Option Addr} {sl_hig : Array (Option Value)} {oc_hig kV_hig dc_hig pm_hig cd_hig ct_hig : Value}
    {od_dip an_dip : Option Addr} {sl_dip : Array (Option Value)} {oc_dip kV_dip dc_dip pm_dip cd_dip ct_dip : Value}
    {od_fal an_fal : Option Addr} {sl_fal : Array (Option Value)} {oc_fal kV_fal dc_fal pm_fal cd_fal ct_fal : Value}
    {od_ltn an_ltn : Option Addr} {sl_ltn : Array (Option Value)} {oc_ltn kV_ltn dc_ltn pm_ltn cd_ltn ct_ltn : Value}
    {od_frt an_frt : Option Addr} {sl_frt : Array (Option Value)} {oc_frt kV_frt dc_frt pm_frt cd_frt ct_frt : Value}
    {od_cas an_cas : Option Addr} {sl_cas : Array (Option Value)} {oc_cas kV_cas dc_cas pm_cas cd_cas ct_cas : Value}
    {od_law an_law : Option Addr} {sl_law : Array (Option Value)} {oc_law kV_law dc_law pm_law cd_law ct_law : Value}
    {od_ini an_ini : Option Addr} {sl_ini : Array (Option Value)} {oc_ini kV_ini dc_ini pm_ini cd_ini ct_ini : Value}
    {od_len an_len : Option Addr} {sl_len : Array (Option Value)} {oc_len kV_len dc_len pm_len cd_len ct_len : Value}
    {od_W an_W : Option Addr} {sl_W : Array (Option Value)} {oc_W kV_W dc_W pm_W cd_W ct_W : Value}
    {od_R an_R : Option Addr} {sl_R : Array (Option Value)} {oc_R kV_R dc_R pm_R cd_R ct_R : Value}
    {od_K an_K : Option Addr} {sl_K : Array (Option Value)} {oc_K kV_K dc_K pm_K cd_K ct_K : Value}
    (aC : PySem.W.nsIn K mainGlobals "Chart" = some (some (.ref CC)))
    (mC : PySem.W.makesIn K CC = true)
    (kC : PySem.W.keepIn K (.ref CC) = true)
    (aT : PySem.W.nsIn K mainGlobals "LONGEST_THREAD" = some (some (.int 8 tLT)))
    (aM : PySem.W.nsIn K mainGlobals "MOST_IN_STITCH" = some (some (.int 3 tMS)))
    (aD : PySem.W.nsIn K mainGlobals "divmod" = some none)
    (n_ply : PySem.W.nsIn K mainGlobals "_law_ply" = some (some (.ref f_ply)))
    (n_cre : PySem.W.nsIn K mainGlobals "_law_creel" = some (some (.ref f_cre)))
    (n_int : PySem.W.nsIn K mainGlobals "is_integer" = some (some (.ref f_int)))
    (n_num : PySem.W.nsIn K mainGlobals "is_number" = some (some (.ref f_num)))
    (n_thr : PySem.W.nsIn K mainGlobals "is_thread" = some (some (.ref f_thr)))
    (n_yar : PySem.W.nsIn K mainGlobals "_law_yarns" = some (some (.ref f_yar)))
    (n_mat : PySem.W.nsIn K mainGlobals "_law_matched" = some (some (.ref f_mat)))
    (n_csz : PySem.W.nsIn K mainGlobals "check_size" = some (some (.ref f_csz)))
    (n_ist : PySem.W.nsIn K mainGlobals "is_stitch" = some (some (.ref f_ist)))
    (n_ics : PySem.W.nsIn K mainGlobals "is_chart_stitch" = some (some (.ref f_ics)))
    (n_icr : PySem.W.nsIn K mainGlobals "is_chart_row" = some (some (.ref f_icr)))
    (n_cnr : PySem.W.nsIn K mainGlobals "count_rows" = some (some (.ref f_cnr)))
    (n_crw : PySem.W.nsIn K mainGlobals "check_row" = some (some (.ref f_crw)))
    (n_cwd : PySem.W.nsIn K mainGlobals "check_width" = some (some (.ref f_cwd)))
    (n_spa : PySem.W.nsIn K mainGlobals "spans" = some (some (.ref f_spa)))
    (n_lfe : PySem.W.nsIn K mainGlobals "left_end" = some (some (.ref f_lfe)))
    (n_rge : PySem.W.nsIn K mainGlobals "right_end" = some (some (.ref f_rge)))
    (n_wlk : PySem.W.nsIn K mainGlobals "walk" = some (some (.ref f_wlk)))
    (n_shf : PySem.W.nsIn K mainGlobals "shifted" = some (some (.ref f_shf)))
    (n_rep : PySem.W.nsIn K mainGlobals "repeated" = some (some (.ref f_rep)))
    (n_rdt : PySem.W.nsIn K mainGlobals "round_table" = some (some (.ref f_rdt)))
    (n_far : PySem.W.nsIn K mainGlobals "far_end" = some (some (.ref f_far)))
    (n_eat : PySem.W.nsIn K mainGlobals "ends_at" = some (some (.ref f_eat)))
    (n_trn : PySem.W.nsIn K mainGlobals "turn" = some (some (.ref f_trn)))
    (n_tns : PySem.W.nsIn K mainGlobals "turns" = some (some (.ref f_tns)))
    (n_stc : PySem.W.nsIn K mainGlobals "_law_stitches" = some (some (.ref f_stc)))
    (n_pln : PySem.W.nsIn K mainGlobals "_law_plan" = some (some (.ref f_pln)))
    (n_sum : PySem.W.nsIn K mainGlobals "_law_sums" = some (some (.ref f_sum)))
    (n_mks : PySem.W.nsIn K mainGlobals "_law_marks" = some (some (.ref f_mks)))
    (n_spo : PySem.W.nsIn K mainGlobals "_law_spot" = some (some (.ref f_spo)))
    (n_low : PySem.W.nsIn K mainGlobals "_law_low" = some (some (.ref f_low)))
    (n_hig : PySem.W.nsIn K mainGlobals "_law_high" = some (some (.ref f_hig)))
    (n_dip : PySem.W.nsIn K mainGlobals "_law_dip" = some (some (.ref f_dip)))
    (n_fal : PySem.W.nsIn K mainGlobals "_law_fall" = some (some (.ref f_fal)))
    (n_ltn : PySem.W.nsIn K mainGlobals "_law_turn" = some (some (.ref f_ltn)))
    (n_frt : PySem.W.nsIn K mainGlobals "_law_far_right" = some (some (.ref f_frt)))
    (n_cas : PySem.W.nsIn K mainGlobals "_law_case_right" = some (some (.ref f_cas)))
    (n_law : PySem.W.nsIn K mainGlobals "law" = some (some (.ref f_law)))
    (n_ini : PySem.W.findIn K (.ref CC) "__init__" = some (some (.ref f_ini)))
    (i_ini : PySem.W.isFn K (.ref f_ini) = true)
    (n_len : PySem.W.findIn K (.ref CC) "__len__" = some (some (.ref f_len)))
    (i_len : PySem.W.isFn K (.ref f_len) = true)
    (n_W : PySem.W.findIn K (.ref CC) "width" = some (some (.ref p_W)))
    (q_W : PySem.W.recIn K p_W "property" = some (.ref f_W :: r_W))
    (n_R : PySem.W.findIn K (.ref CC) "rows" = some (some (.ref p_R)))
    (q_R : PySem.W.recIn K p_R "property" = some (.ref f_R :: r_R))
    (n_K : PySem.W.findIn K (.ref CC) "counts" = some (some (.ref p_K)))
    (q_K : PySem.W.recIn K p_K "property" = some (.ref f_K :: r_K))
    (l_ply : K.lookup f_ply = some ⟨oc_ply, od_ply, .func (PySem.W.fnOf "_law_ply" "_law_ply" (defArgs sPly) (defBody sPly) (defScope sPly) .none kV_ply dc_ply pm_ply an_ply cd_ply ct_ply), sl_ply⟩)
    (c_ply : PySem.W.codeIn K cd_ply "_law_ply" = true)
    (k_ply : PySem.W.keepIn K (.ref f_ply) = true)
    (l_cre : K.lookup f_cre = some ⟨oc_cre, od_cre, .func (PySem.W.fnOf "_law_creel" "_law_creel" (defArgs sCreel) (defBody sCreel) (defScope sCreel) .none kV_cre dc_cre pm_cre an_cre cd_cre ct_cre), sl_cre⟩)
    (c_cre : PySem.W.codeIn K cd_cre "_law_creel" = true)
    (k_cre : PySem.W.keepIn K (.ref f_cre) = true)
    (l_int : K.lookup f_int = some ⟨oc_int, od_int, .func (PySem.W.fnOf "is_integer" "is_integer" (defArgs sIsInt) (defBody sIsInt) (defScope sIsInt) .none kV_int dc_int pm_int an_int cd_int ct_int), sl_int⟩)
    (c_int : PySem.W.codeIn K cd_int "is_integer" = true)
    (k_int : PySem.W.keepIn K (.ref f_int) = true)
    (l_num : K.lookup f_num = some ⟨oc_num, od_num, .func (PySem.W.fnOf "is_number" "is_number" (defArgs sIsNum) (defBody sIsNum) (defScope sIsNum) .none kV_num dc_num pm_num an_num cd_num ct_num), sl_num⟩)
    (c_num : PySem.W.codeIn K cd_num "is_number" = true)
    (k_num : PySem.W.keepIn K (.ref f_num) = true)
    (l_thr : K.lookup f_thr = some ⟨oc_thr, od_thr, .func (PySem.W.fnOf "is_thread" "is_thread" (defArgs sIsThr) (defBody sIsThr) (defScope sIsThr) .none kV_thr dc_thr pm_thr an_thr cd_thr ct_thr), sl_thr⟩)
    (c_thr : PySem.W.codeIn K cd_thr "is_thread" = true)
    (k_thr : PySem.W.keepIn K (.ref f_thr) = true)
    (l_yar : K.lookup f_yar = some ⟨oc_yar, od_yar, .func (PySem.W.fnOf "_law_yarns" "_law_yarns" (defArgs sYarns) (defBody sYarns) (defScope sYarns) .none kV_yar dc_yar pm_yar an_yar cd_yar ct_yar), sl_yar⟩)
    (c_yar : PySem.W.codeIn K cd_yar "_law_yarns" = true)
    (k_yar : PySem.W.keepIn K (.ref f_yar) = true)
    (l_mat : K.lookup f_mat = some ⟨oc_mat, od_mat, .func (PySem.W.fnOf "_law_matched" "_law_matched" (defArgs sMat) (defBody sMat) (defScope sMat) .none kV_mat dc_mat pm_mat an_mat cd_mat ct_mat), sl_mat⟩)
    (c_mat : PySem.W.codeIn K cd_mat "_law_matched" = true)
    (k_mat : PySem.W.keepIn K (.ref f_mat) = true)
    (l_csz : K.lookup f_csz = some ⟨oc_csz, od_csz, .func (PySem.W.fnOf "check_size" "check_size" (defArgs sCsz) (defBody sCsz) (defScope sCsz) .none kV_csz dc_csz pm_csz an_csz cd_csz ct_csz), sl_csz⟩)
    (c_csz : PySem.W.codeIn K cd_csz "check_size" = true)
    (k_csz : PySem.W.keepIn K (.ref f_csz) = true)
    (l_ist : K.lookup f_ist = some ⟨oc_ist, od_ist, .func (PySem.W.fnOf "is_stitch" "is_stitch" (defArgs sIst) (defBody sIst) (defScope sIst) .none kV_ist dc_ist pm_ist an_ist cd_ist ct_ist), sl_ist⟩)
    (c_ist : PySem.W.codeIn K cd_ist "is_stitch" = true)
    (k_ist : PySem.W.keepIn K (.ref f_ist) = true)
    (l_ics : K.lookup f_ics = some ⟨oc_ics, od_ics, .func (PySem.W.fnOf "is_chart_stitch" "is_chart_stitch" (defArgs sIcs) (defBody sIcs) (defScope sIcs) .none kV_ics dc_ics pm_ics an_ics cd_ics ct_ics), sl_ics⟩)
    (c_ics : PySem.W.codeIn K cd_ics "is_chart_stitch" = true)
    (k_ics : PySem.W.keepIn K (.ref f_ics) = true)
    (l_icr : K.lookup f_icr = some ⟨oc_icr, od_icr, .func (PySem.W.fnOf "is_chart_row" "is_chart_row" (defArgs sIcr) (defBody sIcr) (defScope sIcr) .none kV_icr dc_icr pm_icr an_icr cd_icr ct_icr), sl_icr⟩)
    (c_icr : PySem.W.codeIn K cd_icr "is_chart_row" = true)
    (k_icr : PySem.W.keepIn K (.ref f_icr) = true)
    (l_cnr : K.lookup f_cnr = some ⟨oc_cnr, od_cnr, .func (PySem.W.fnOf "count_rows" "count_rows" (defArgs sCnr) (defBody sCnr) (defScope sCnr) .none kV_cnr dc_cnr pm_cnr an_cnr cd_cnr ct_cnr), sl_cnr⟩)
    (c_cnr : PySem.W.codeIn K cd_cnr "count_rows" = true)
    (k_cnr : PySem.W.keepIn K (.ref f_cnr) = true)
    (l_crw : K.lookup f_crw = some ⟨oc_crw, od_crw, .func (PySem.W.fnOf "check_row" "check_row" (defArgs sCrw) (defBody sCrw) (defScope sCrw) .none kV_crw dc_crw pm_crw an_crw cd_crw ct_crw), sl_crw⟩)
    (c_crw : PySem.W.codeIn K cd_crw "check_row" = true)
    (k_crw : PySem.W.keepIn K (.ref f_crw) = true)
    (l_cwd : K.lookup f_cwd = some ⟨oc_cwd, od_cwd, .func (PySem.W.fnOf "check_width" "check_width" (defArgs sCwd) (defBody sCwd) (defScope sCwd) .none kV_cwd dc_cwd pm_cwd an_cwd cd_cwd ct_cwd), sl_cwd⟩)
    (c_cwd : PySem.W.codeIn K cd_cwd "check_width" = true)
    (k_cwd : PySem.W.keepIn K (.ref f_cwd) = true)
    (l_spa : K.lookup f_spa = some ⟨oc_spa, od_spa, .func (PySem.W.fnOf "spans" "spans" (defArgs sSpa) (defBody sSpa) (defScope sSpa) .none kV_spa dc_spa pm_spa an_spa cd_spa ct_spa), sl_spa⟩)
    (c_spa : PySem.W.codeIn K cd_spa "spans" = true)
    (k_spa : PySem.W.keepIn K (.ref f_spa) = true)
    (l_lfe : K.lookup f_lfe = some ⟨oc_lfe, od_lfe, .func (PySem.W.fnOf "left_end" "left_end" (defArgs sLfe) (defBody sLfe) (defScope sLfe) .none kV_lfe dc_lfe pm_lfe an_lfe cd_lfe ct_lfe), sl_lfe⟩)
    (c_lfe : PySem.W.codeIn K cd_lfe "left_end" = true)
    (k_lfe : PySem.W.keepIn K (.ref f_lfe) = true)
    (l_rge : K.lookup f_rge = some ⟨oc_rge, od_rge, .func (PySem.W.fnOf "right_end" "right_end" (defArgs sRge) (defBody sRge) (defScope sRge) .none kV_rge dc_rge pm_rge an_rge cd_rge ct_rge), sl_rge⟩)
    (c_rge : PySem.W.codeIn K cd_rge "right_end" = true)
    (k_rge : PySem.W.keepIn K (.ref f_rge) = true)
    (l_wlk : K.lookup f_wlk = some ⟨oc_wlk, od_wlk, .func (PySem.W.fnOf "walk" "walk" (defArgs sWlk) (defBody sWlk) (defScope sWlk) .none kV_wlk dc_wlk pm_wlk an_wlk cd_wlk ct_wlk), sl_wlk⟩)
    (c_wlk : PySem.W.codeIn K cd_wlk "walk" = true)
    (k_wlk : PySem.W.keepIn K (.ref f_wlk) = true)
    (l_shf : K.lookup f_shf = some ⟨oc_shf, od_shf, .func (PySem.W.fnOf "shifted" "shifted" (defArgs sShf) (defBody sShf) (defScope sShf) .none kV_shf dc_shf pm_shf an_shf cd_shf ct_shf), sl_shf⟩)
    (c_shf : PySem.W.codeIn K cd_shf "shifted" = true)
    (k_shf : PySem.W.keepIn K (.ref f_shf) = true)
    (l_rep : K.lookup f_rep = some ⟨oc_rep, od_rep, .func (PySem.W.fnOf "repeated" "repeated" (defArgs sRep) (defBody sRep) (defScope sRep) .none kV_rep dc_rep pm_rep an_rep cd_rep ct_rep), sl_rep⟩)
    (c_rep : PySem.W.codeIn K cd_rep "repeated" = true)
    (k_rep : PySem.W.keepIn K (.ref f_rep) = true)
    (l_rdt : K.lookup f_rdt = some ⟨oc_rdt, od_rdt, .func (PySem.W.fnOf "round_table" "round_table" (defArgs sRdt) (defBody sRdt) (defScope sRdt) .none kV_rdt dc_rdt pm_rdt an_rdt cd_rdt ct_rdt), sl_rdt⟩)
    (c_rdt : PySem.W.codeIn K cd_rdt "round_table" = true)
    (k_rdt : PySem.W.keepIn K (.ref f_rdt) = true)
    (l_far : K.lookup f_far = some ⟨oc_far, od_far, .func (PySem.W.fnOf "far_end" "far_end" (defArgs sFar) (defBody sFar) (defScope sFar) .none kV_far dc_far pm_far an_far cd_far ct_far), sl_far⟩)
    (c_far : PySem.W.codeIn K cd_far "far_end" = true)
    (k_far : PySem.W.keepIn K (.ref f_far) = true)
    (l_eat : K.lookup f_eat = some ⟨oc_eat, od_eat, .func (PySem.W.fnOf "ends_at" "ends_at" (defArgs sEat) (defBody sEat) (defScope sEat) .none kV_eat dc_eat pm_eat an_eat cd_eat ct_eat), sl_eat⟩)
    (c_eat : PySem.W.codeIn K cd_eat "ends_at" = true)
    (k_eat : PySem.W.keepIn K (.ref f_eat) = true)
    (l_trn : K.lookup f_trn = some ⟨oc_trn, od_trn, .func (PySem.W.fnOf "turn" "turn" (defArgs sTrn) (defBody sTrn) (defScope sTrn) .none kV_trn dc_trn pm_trn an_trn cd_trn ct_trn), sl_trn⟩)
    (c_trn : PySem.W.codeIn K cd_trn "turn" = true)
    (k_trn : PySem.W.keepIn K (.ref f_trn) = true)
    (l_tns : K.lookup f_tns = some ⟨oc_tns, od_tns, .func (PySem.W.fnOf "turns" "turns" (defArgs sTns) (defBody sTns) (defScope sTns) .none kV_tns dc_tns pm_tns an_tns cd_tns ct_tns), sl_tns⟩)
    (c_tns : PySem.W.codeIn K cd_tns "turns" = true)
    (k_tns : PySem.W.keepIn K (.ref f_tns) = true)
    (l_stc : K.lookup f_stc = some ⟨oc_stc, od_stc, .func (PySem.W.fnOf "_law_stitches" "_law_stitches" (defArgs sStc) (defBody sStc) (defScope sStc) .none kV_stc dc_stc pm_stc an_stc cd_stc ct_stc), sl_stc⟩)
    (c_stc : PySem.W.codeIn K cd_stc "_law_stitches" = true)
    (k_stc : PySem.W.keepIn K (.ref f_stc) = true)
    (l_pln : K.lookup f_pln = some ⟨oc_pln, od_pln, .func (PySem.W.fnOf "_law_plan" "_law_plan" (defArgs sPln) (defBody sPln) (defScope sPln) .none kV_pln dc_pln pm_pln an_pln cd_pln ct_pln), sl_pln⟩)
    (c_pln : PySem.W.codeIn K cd_pln "_law_plan" = true)
    (k_pln : PySem.W.keepIn K (.ref f_pln) = true)
    (l_sum : K.lookup f_sum = some ⟨oc_sum, od_sum, .func (PySem.W.fnOf "_law_sums" "_law_sums" (defArgs sSum) (defBody sSum) (defScope sSum) .none kV_sum dc_sum pm_sum an_sum cd_sum ct_sum), sl_sum⟩)
    (c_sum : PySem.W.codeIn K cd_sum "_law_sums" = true)
    (k_sum : PySem.W.keepIn K (.ref f_sum) = true)
    (l_mks : K.lookup f_mks = some ⟨oc_mks, od_mks, .func (PySem.W.fnOf "_law_marks" "_law_marks" (defArgs sMks) (defBody sMks) (defScope sMks) .none kV_mks dc_mks pm_mks an_mks cd_mks ct_mks), sl_mks⟩)
    (c_mks : PySem.W.codeIn K cd_mks "_law_marks" = true)
    (k_mks : PySem.W.keepIn K (.ref f_mks) = true)
    (l_spo : K.lookup f_spo = some ⟨oc_spo, od_spo, .func (PySem.W.fnOf "_law_spot" "_law_spot" (defArgs sSpo) (defBody sSpo) (defScope sSpo) .none kV_spo dc_spo pm_spo an_spo cd_spo ct_spo), sl_spo⟩)
    (c_spo : PySem.W.codeIn K cd_spo "_law_spot" = true)
    (k_spo : PySem.W.keepIn K (.ref f_spo) = true)
    (l_low : K.lookup f_low = some ⟨oc_low, od_low, .func (PySem.W.fnOf "_law_low" "_law_low" (defArgs sLow) (defBody sLow) (defScope sLow) .none kV_low dc_low pm_low an_low cd_low ct_low), sl_low⟩)
    (c_low : PySem.W.codeIn K cd_low "_law_low" = true)
    (k_low : PySem.W.keepIn K (.ref f_low) = true)
    (l_hig : K.lookup f_hig = some ⟨oc_hig, od_hig, .func (PySem.W.fnOf "_law_high" "_law_high" (defArgs sHig) (defBody sHig) (defScope sHig) .none kV_hig dc_hig pm_hig an_hig cd_hig ct_hig), sl_hig⟩)
    (c_hig : PySem.W.codeIn K cd_hig "_law_high" = true)
    (k_hig : PySem.W.keepIn K (.ref f_hig) = true)
    (l_dip : K.lookup f_dip = some ⟨oc_dip, od_dip, .func (PySem.W.fnOf "_law_dip" "_law_dip" (defArgs sDip) (defBody sDip) (defScope sDip) .none kV_dip dc_dip pm_dip an_dip cd_dip ct_dip), sl_dip⟩)
    (c_dip : PySem.W.codeIn K cd_dip "_law_dip" = true)
    (k_dip : PySem.W.keepIn K (.ref f_dip) = true)
    (l_fal : K.lookup f_fal = some ⟨oc_fal, od_fal, .func (PySem.W.fnOf "_law_fall" "_law_fall" (defArgs sFal) (defBody sFal) (defScope sFal) .none kV_fal dc_fal pm_fal an_fal cd_fal ct_fal), sl_fal⟩)
    (c_fal : PySem.W.codeIn K cd_fal "_law_fall" = true)
    (k_fal : PySem.W.keepIn K (.ref f_fal) = true)
    (l_ltn : K.lookup f_ltn = some ⟨oc_ltn, od_ltn, .func (PySem.W.fnOf "_law_turn" "_law_turn" (defArgs sLtn) (defBody sLtn) (defScope sLtn) .none kV_ltn dc_ltn pm_ltn an_ltn cd_ltn ct_ltn), sl_ltn⟩)
    (c_ltn : PySem.W.codeIn K cd_ltn "_law_turn" = true)
    (k_ltn : PySem.W.keepIn K (.ref f_ltn) = true)
    (l_frt : K.lookup f_frt = some ⟨oc_frt, od_frt, .func (PySem.W.fnOf "_law_far_right" "_law_far_right" (defArgs sFrt) (defBody sFrt) (defScope sFrt) .none kV_frt dc_frt pm_frt an_frt cd_frt ct_frt), sl_frt⟩)
    (c_frt : PySem.W.codeIn K cd_frt "_law_far_right" = true)
    (k_frt : PySem.W.keepIn K (.ref f_frt) = true)
    (l_cas : K.lookup f_cas = some ⟨oc_cas, od_cas, .func (PySem.W.fnOf "_law_case_right" "_law_case_right" (defArgs sCas) (defBody sCas) (defScope sCas) .none kV_cas dc_cas pm_cas an_cas cd_cas ct_cas), sl_cas⟩)
    (c_cas : PySem.W.codeIn K cd_cas "_law_case_right" = true)
    (k_cas : PySem.W.keepIn K (.ref f_cas) = true)
    (l_law : K.lookup f_law = some ⟨oc_law, od_law, .func (PySem.W.fnOf "law" "law" (defArgs sLaw) (defBody sLaw) (defScope sLaw) .none kV_law dc_law pm_law an_law cd_law ct_law), sl_law⟩)
    (c_law : PySem.W.codeIn K cd_law "law" = true)
    (k_law : PySem.W.keepIn K (.ref f_law) = true)
    (l_ini : K.lookup f_ini = some ⟨oc_ini, od_ini, .func (PySem.W.fnOf "__init__" "Chart.__init__" (defArgs sHin) (defBody sHin) (defScope sHin) .none kV_ini dc_ini pm_ini an_ini cd_ini ct_ini), sl_ini⟩)
    (c_ini : PySem.W.codeIn K cd_ini "Chart.__init__" = true)
    (k_ini : PySem.W.keepIn K (.ref f_ini) = true)
    (l_len : K.lookup f_len = some ⟨oc_len, od_len, .func (PySem.W.fnOf "__len__" "Chart.__len__" (defArgs sHln) (defBody sHln) (defScope sHln) .none kV_len dc_len pm_len an_len cd_len ct_len), sl_len⟩)
    (c_len : PySem.W.codeIn K cd_len "Chart.__len__" = true)
    (k_len : PySem.W.keepIn K (.ref f_len) = true)
    (l_W : K.lookup f_W = some ⟨oc_W, od_W, .func (PySem.W.fnOf "width" "Chart.width" (defArgs sHwd) (defBody sHwd) (defScope sHwd) .none kV_W dc_W pm_W an_W cd_W ct_W), sl_W⟩)
    (c_W : PySem.W.codeIn K cd_W "Chart.width" = true)
    (k_W : PySem.W.keepIn K (.ref f_W) = true)
    (l_R : K.lookup f_R = some ⟨oc_R, od_R, .func (PySem.W.fnOf "rows" "Chart.rows" (defArgs sHrw) (defBody sHrw) (defScope sHrw) .none kV_R dc_R pm_R an_R cd_R ct_R), sl_R⟩)
    (c_R : PySem.W.codeIn K cd_R "Chart.rows" = true)
    (k_R : PySem.W.keepIn K (.ref f_R) = true)
    (l_K : K.lookup f_K = some ⟨oc_K, od_K, .func (PySem.W.fnOf "counts" "Chart.counts" (defArgs sHct) (defBody sHct) (defScope sHct) .none kV_K dc_K pm_K an_K cd_K ct_K), sl_K⟩)
    (c_K : PySem.W.codeIn K cd_K "Chart.counts" = true)
    (k_K : PySem.W.keepIn K (.ref f_K) = true)
    (hC : chkH K CC = true)
    (hP : (chkP K p_W && chkP K p_R && chkP K p_K) = true)
    (hN : chkN K = true)
    : ∃ fd : FuncData, (∀ (s : Shared) (v : Value), BindsTo s fd ⟨[v], []⟩ [("script", v)]) ∧ ∀ base : Heap, K.In base → base.Ns mainGlobals mg → FnOk P w K mg base CX0 11 fa fd ["script"] (spLaw K) := by
  have e := hfa.symm.trans (PySem.W.mg_of X G n_law)
  cases e
  have B : Bl mg := fun n hn => PySem.W.mg_none_of X G (of_decide_eq_true (List.all_eq_true.mp hN n hn))
  obtain ⟨cc, n1, n2, it⟩ := chkH_of hC
  simp only [Bool.and_eq_true] at hP
  have gD := PySem.W.mg_none_of X G aD
  obtain ⟨⟨hP0, hP1⟩, hP2⟩ := hP
  have aP_W := prp_of n_W q_W hP0
  have aP_R := prp_of n_R q_R hP1
  have aP_K := prp_of n_K q_K hP2
  have F_ply := fun_mk (st := sPly) l_ply c_ply k_ply
  have b_ply := F_ply.binds (ps := ["creel", "span"]) fun _ _ _ _ _ _ us hl => match us, hl with | [_, _], _ => rfl
  have F_cre := fun_mk (st := sCreel) l_cre c_cre k_cre
  have b_cre := F_cre.binds (ps := ["script", "at"]) fun _ _ _ _ _ _ us hl => match us, hl with | [_, _], _ => rfl
  have F_int := fun_mk (st := sIsInt) l_int c_int k_int
  have b_int := F_int.binds (ps := ["value"]) fun _ _ _ _ _ _ us hl => match us, hl with | [_], _ => rfl
  have F_num := fun_mk (st := sIsNum) l_num c_num k_num
  have b_num := F_num.binds (ps := ["value", "many"]) fun _ _ _ _ _ _ us hl => match us, hl with | [_, _], _ => rfl
  have F_thr := fun_mk (st := sIsThr) l_thr c_thr k_thr
  have b_thr := F_thr.binds (ps := ["value"]) fun _ _ _ _ _ _ us hl => match us, hl with | [_], _ => rfl
  have F_yar := fun_mk (st := sYarns) l_yar c_yar k_yar
  have b_yar := F_yar.binds (ps := ["creel", "many"]) fun _ _ _ _ _ _ us hl => match us, hl with | [_, _], _ => rfl
  have F_mat := fun_mk (st := sMat) l_mat c_mat k_mat
  have b_mat := F_mat.binds (ps := ["found", "due"]) fun _ _ _ _ _ _ us hl => match us, hl with | [_, _], _ => rfl
  have F_csz := fun_mk (st := sCsz) l_csz c_csz k_csz
  have b_csz := F_csz.binds (ps := ["size"]) fun _ _ _ _ _ _ us hl => match us, hl with | [_], _ => rfl
  have F_ist := fun_mk (st := sIst) l_ist c_ist k_ist
  have b_ist := F_ist.binds (ps := ["value"]) fun _ _ _ _ _ _ us hl => match us, hl with | [_], _ => rfl
  have F_ics := fun_mk (st := sIcs) l_ics c_ics k_ics
  have b_ics := F_ics.binds (ps := ["value"]) fun _ _ _ _ _ _ us hl => match us, hl with | [_], _ => rfl
  have F_icr := fun_mk (st := sIcr) l_icr c_icr k_icr
  have b_icr := F_icr.binds (ps := ["value", "count"]) fun _ _ _ _ _ _ us hl => match us, hl with | [_, _], _ => rfl
  have F_cnr := fun_mk (st := sCnr) l_cnr c_cnr k_cnr
  have b_cnr := F_cnr.binds (ps := ["width", "rows"]) fun _ _ _ _ _ _ us hl => match us, hl with | [_, _], _ => rfl
  have F_crw := fun_mk (st := sCrw) l_crw c_crw k_crw
  have b_crw := F_crw.binds (ps := ["row", "many"]) fun _ _ _ _ _ _ us hl => match us, hl with | [_, _], _ => rfl
  have F_cwd := fun_mk (st := sCwd) l_cwd c_cwd k_cwd
  have b_cwd := F_cwd.binds (ps := ["width", "least"]) fun _ _ _ _ _ _ us hl => match us, hl with | [_, _], _ => rfl
  have F_spa := fun_mk (st := sSpa) l_spa c_spa k_spa
  have b_spa := F_spa.binds (ps := ["chart", "row"]) fun _ _ _ _ _ _ us hl => match us, hl with | [_, _], _ => rfl
  have F_lfe := fun_mk (st := sLfe) l_lfe c_lfe k_lfe
  have b_lfe := F_lfe.binds (ps := ["chart", "row", "number"]) fun _ _ _ _ _ _ us hl => match us, hl with | [_, _, _], _ => rfl
  have F_rge := fun_mk (st := sRge) l_rge c_rge k_rge
  have b_rge := F_rge.binds (ps := ["chart", "row", "number"]) fun _ _ _ _ _ _ us hl => match us, hl with | [_, _, _], _ => rfl
  have F_wlk := fun_mk (st := sWlk) l_wlk c_wlk k_wlk
  have b_wlk := F_wlk.binds (ps := ["chart", "row", "number", "rows", "step", "by"]) fun _ _ _ _ _ _ us hl => match us, hl with | [_, _, _, _, _, _], _ => rfl
  have F_shf := fun_mk (st := sShf) l_shf c_shf k_shf
  have b_shf := F_shf.binds (ps := ["table", "number"]) fun _ _ _ _ _ _ us hl => match us, hl with | [_, _], _ => rfl
  have F_rep := fun_mk (st := sRep) l_rep c_rep k_rep
  have b_rep := F_rep.binds (ps := ["table", "number", "times"]) fun _ _ _ _ _ _ us hl => match us, hl with | [_, _, _], _ => rfl
  have F_rdt := fun_mk (st := sRdt) l_rdt c_rdt k_rdt
  have b_rdt := F_rdt.binds (ps := ["chart", "row", "step", "by"]) fun _ _ _ _ _ _ us hl => match us, hl with | [_, _, _, _], _ => rfl
  have F_far := fun_mk (st := sFar) l_far c_far k_far
  have b_far := F_far.binds (ps := ["chart", "row", "number", "rows", "step", "by"]) fun _ _ _ _ _ _ us hl => match us, hl with | [_, _, _, _, _, _], _ => rfl
  have F_eat := fun_mk (st := sEat) l_eat c_eat k_eat
  have b_eat := F_eat.binds (ps := ["chart", "row", "left", "right", "rows"]) fun _ _ _ _ _ _ us hl => match us, hl with | [_, _, _, _, _], _ => rfl
  have F_trn := fun_mk (st := sTrn) l_trn c_trn k_trn
  have b_trn := F_trn.binds (ps := ["table"]) fun _ _ _ _ _ _ us hl => match us, hl with | [_], _ => rfl
  have F_tns := fun_mk (st := sTns) l_tns c_tns k_tns
  have b_tns := F_tns.binds (ps := ["chart"]) fun _ _ _ _ _ _ us hl => match us, hl with | [_], _ => rfl
  have F_stc := fun_mk (st := sStc) l_stc c_stc k_stc
  have b_stc := F_stc.binds (ps := ["creel", "count", "due"]) fun _ _ _ _ _ _ us hl => match us, hl with | [_, _, _], _ => rfl
  have F_pln := fun_mk (st := sPln) l_pln c_pln k_pln
  have b_pln := F_pln.binds (ps := ["creel", "most", "rows_most"]) fun _ _ _ _ _ _ us hl => match us, hl with | [_, _, _], _ => rfl
  have F_sum := fun_mk (st := sSum) l_sum c_sum k_sum
  have b_sum := F_sum.binds (ps := ["plan"]) fun _ _ _ _ _ _ us hl => match us, hl with | [_], _ => rfl
  have F_mks := fun_mk (st := sMks) l_mks c_mks k_mks
  have b_mks := F_mks.binds (ps := ["line"]) fun _ _ _ _ _ _ us hl => match us, hl with | [_], _ => rfl
  have F_spo := fun_mk (st := sSpo) l_spo c_spo k_spo
  have b_spo := F_spo.binds (ps := ["creel", "plan"]) fun _ _ _ _ _ _ us hl => match us, hl with | [_, _], _ => rfl
  have F_low := fun_mk (st := sLow) l_low c_low k_low
  have b_low := F_low.binds (ps := ["plan", "at", "mark"]) fun _ _ _ _ _ _ us hl => match us, hl with | [_, _, _], _ => rfl
  have F_hig := fun_mk (st := sHig) l_hig c_hig k_hig
  have b_hig := F_hig.binds (ps := ["plan", "at", "mark"]) fun _ _ _ _ _ _ us hl => match us, hl with | [_, _, _], _ => rfl
  have F_dip := fun_mk (st := sDip) l_dip c_dip k_dip
  have b_dip := F_dip.binds (ps := ["plan", "at", "west", "east"]) fun _ _ _ _ _ _ us hl => match us, hl with | [_, _, _, _], _ => rfl
  have F_fal := fun_mk (st := sFal) l_fal c_fal k_fal
  have b_fal := F_fal.binds (ps := ["plan", "at", "west", "east", "deep"]) fun _ _ _ _ _ _ us hl => match us, hl with | [_, _, _, _, _], _ => rfl
  have F_ltn := fun_mk (st := sLtn) l_ltn c_ltn k_ltn
  have b_ltn := F_ltn.binds (ps := ["plan", "side"]) fun _ _ _ _ _ _ us hl => match us, hl with | [_, _], _ => rfl
  have F_frt := fun_mk (st := sFrt) l_frt c_frt k_frt
  have b_frt := F_frt.binds (ps := ["creel", "plan", "net", "whole_turns"]) fun _ _ _ _ _ _ us hl => match us, hl with | [_, _, _, _], _ => rfl
  have F_cas := fun_mk (st := sCas) l_cas c_cas k_cas
  have b_cas := F_cas.binds (ps := ["creel"]) fun _ _ _ _ _ _ us hl => match us, hl with | [_], _ => rfl
  have F_law := fun_mk (st := sLaw) l_law c_law k_law
  have F_ini := fun_mk (st := sHin) l_ini c_ini k_ini
  have b_ini := F_ini.binds (ps := ["self", "width", "rows"]) fun _ _ _ _ _ _ us hl => match us, hl with | [_, _, _], _ => rfl
  have F_len := fun_mk (st := sHln) l_len c_len k_len
  have b_len := F_len.binds (ps := ["self"]) fun _ _ _ _ _ _ us hl => match us, hl with | [_], _ => rfl
  have F_W := fun_mk (st := sHwd) l_W c_W k_W
  have b_W := F_W.binds (ps := ["self"]) fun _ _ _ _ _ _ us hl => match us, hl with | [_], _ => rfl
  have F_R := fun_mk (st := sHrw) l_R c_R k_R
  have b_R := F_R.binds (ps := ["self"]) fun _ _ _ _ _ _ us hl => match us, hl with | [_], _ => rfl
  have F_K := fun_mk (st := sHct) l_K c_K k_K
  have b_K := F_K.binds (ps := ["self"]) fun _ _ _ _ _ _ us hl => match us, hl with | [_], _ => rfl
  have q_eat : KBinds K (PySem.W.fnOf "ends_at" "ends_at" (defArgs sEat) (defBody sEat) (defScope sEat) .none kV_eat dc_eat pm_eat an_eat cd_eat ct_eat) ["chart", "row", "left", "right", "rows"] ["rows", "right", "left", "row", "chart"] rv5 rv5 := ⟨fun s us ws _ hl => match us, ws, hl with | [], [_, _, _, _, _], _ => .of_eq rfl, fun a b => rvN_rel a b⟩
  have q_tns : KBinds K (PySem.W.fnOf "turns" "turns" (defArgs sTns) (defBody sTns) (defScope sTns) .none kV_tns dc_tns pm_tns an_tns cd_tns ct_tns) ["chart"] ["chart"] (fwN 1) (fwN 1) := ⟨fun s us ws _ hl => match us, ws, hl with | [], [_], _ => .of_eq rfl, fun a b => fwN_rel a b⟩
  have m : ∀ {n : Str} {f : Addr}, PySem.W.nsIn K mainGlobals n = some (some (.ref f)) → mg n = some (.ref f) := fun q => PySem.W.mg_of X G q
  refine ⟨PySem.W.fnOf "law" "law" (defArgs sLaw) (defBody sLaw) (defScope sLaw) .none kV_law dc_law pm_law an_law cd_law ct_law, fun s v => .of_eq rfl, fun base _ _ => ?_⟩
  have G_ply := ok_ply (P := P) (w := w) (base := base) F_ply B
  have G_plyB := ok_plyB (P := P) (w := w) (base := base) F_ply B
  have G_cre := ok_creel (P := P) (w := w) (base := base) F_cre B
  have G_int := ok_IsInt (P := P) (w := w) (base := base) F_int B
  have G_num := ok_IsNum F_num B G_int (m n_int) k_int b_int
  have G_thr := ok_IsThr (P := P) (w := w) (base := base) F_thr B ⟨_, PySem.W.mg_of X G aT⟩
  have G_yar := ok_yarns F_yar F_ply B (m n_ply) b_ply G_ply
  have G_mat : FnOk P w K mg base CX0 6 f_mat _ ["found", "due"] (spM K 6) := mat_step 5 F_mat B (m n_mat) b_mat (mat_step 4 F_mat B (m n_mat) b_mat (mat_step 3 F_mat B (m n_mat) b_mat (mat_step 2 F_mat B (m n_mat) b_mat (mat_step 1 F_mat B (m n_mat) b_mat (mat_step 0 F_mat B (m n_mat) b_mat ok_never)))))
  have G_csz := ok_Csz F_csz B G_int (m n_int) k_int b_int
  have G_ist := ok_Ist F_ist B (PySem.W.mg_of X G aM) G_num (m n_num) k_num b_num
  have G_ics := ok_Ics F_ics B G_ist (m n_ist) k_ist b_ist
  have G_icr := ok_Icr F_icr B G_thr (m n_thr) k_thr b_thr G_num (m n_num) k_num b_num G_ics (m n_ics) k_ics b_ics
  have G_cnr := ok_Cnr F_cnr B G_icr (m n_icr) k_icr b_icr
  have G_ini := ok_Hin (CC := CC) F_ini B cc n1 n2 G_csz (m n_csz) k_csz b_csz G_cnr (m n_cnr) k_cnr b_cnr
  have N : Ch2 P w K mg base CC := { pW := _, pR := _, pK := _, gW := _, gR := _, gK := _, gN := _, fC := _, fW := _, fR := _, fK := _, fN := _, dC := _, aW := aP_W, aR := aP_R, aK := aP_K, aN := ⟨n_len, i_len⟩, bW := b_W, bR := b_R, bK := b_K, bN := b_len, oW := ok_Hwd F_W B cc n1, oR := ok_Hrw F_R B cc n2, oK := ok_Hct F_K B cc n1, oN := ok_Hln F_len B cc n2, cc := cc, mC := ⟨mC, n_ini, i_ini, kC⟩, oC := G_ini, gC := m aC, bC := b_ini }
  have G_crw := ok_Crw F_crw B G_num (m n_num) k_num b_num
  have G_cwd := ok_Cwd F_cwd B G_int (m n_int) k_int b_int
  have G_spa := ok_Spa F_spa B N
  have G_lfe := ok_Lfe F_lfe B N G_crw (m n_crw) k_crw b_crw G_spa (m n_spa) k_spa b_spa
  have G_rge := ok_Rge F_rge B N G_crw (m n_crw) k_crw b_crw G_spa (m n_spa) k_spa b_spa
  have G_wlkl := ok_Wlk F_wlk B N false G_lfe k_lfe b_lfe
  have G_wlkr := ok_Wlk F_wlk B N false G_rge k_rge b_rge
  have G_shf := ok_Shf (P := P) (w := w) (base := base) F_shf B gD
  have G_rep := ok_Rep F_rep B G_shf (m n_shf) k_shf b_shf
  have G_rdtl := ok_Rdt F_rdt B N false G_wlkl (m n_wlk) k_wlk b_wlk
  have G_rdtr := ok_Rdt F_rdt B N false G_wlkr (m n_wlk) k_wlk b_wlk
  have G_farl := ok_Far F_far B gD N false G_wlkl (m n_wlk) k_wlk b_wlk G_rep (m n_rep) k_rep b_rep G_rdtl (m n_rdt) k_rdt b_rdt
  have G_farr := ok_Far F_far B gD N false G_wlkr (m n_wlk) k_wlk b_wlk G_rep (m n_rep) k_rep b_rep G_rdtr (m n_rdt) k_rdt b_rdt
  have G_eat := ok_Eat F_eat B N G_crw (m n_crw) k_crw b_crw G_cwd (m n_cwd) k_cwd b_cwd G_farl G_farr (m n_far) k_far b_far (m n_lfe) (m n_rge)
  have G_trn := ok_Trn F_trn B G_shf (m n_shf) k_shf b_shf G_rep (m n_rep) k_rep b_rep
  have G_tns := ok_Tns F_tns B N G_trn (m n_trn) k_trn b_trn G_rdtl G_rdtr (m n_rdt) k_rdt b_rdt (m n_lfe) (m n_rge)
  have G_stc := ok_Stc F_stc B G_ply (m n_ply) k_ply b_ply
  have G_pln := ok_Pln F_pln B G_ply (m n_ply) k_ply b_ply G_yar (m n_yar) k_yar b_yar G_stc (m n_stc) k_stc b_stc
  have G_sum := ok_Sum (P := P) (w := w) (base := base) F_sum B
  have G_mks := ok_Mks (P := P) (w := w) (base := base) F_mks B
  have G_spo := ok_Spo F_spo B G_ply (m n_ply) k_ply b_ply
  have G_low := ok_Low F_low B G_sum (m n_sum) k_sum b_sum G_mks (m n_mks) k_mks b_mks
  have G_hig := ok_Hig F_hig B G_sum (m n_sum) k_sum b_sum G_mks (m n_mks) k_mks b_mks
  have G_dip := ok_Dip F_dip B G_sum (m n_sum) k_sum b_sum G_mks (m n_mks) k_mks b_mks
  have G_fal := ok_Fal F_fal B G_dip (m n_dip) k_dip b_dip
  have G_ltn := ok_Ltn F_ltn B G_sum (m n_sum) k_sum b_sum G_low (m n_low) k_low b_low G_hig (m n_hig) k_hig b_hig
  have G_frt := ok_Frt F_frt B G_spo (m n_spo) k_spo b_spo G_sum (m n_sum) k_sum b_sum G_ply (m n_ply) k_ply b_ply G_low (m n_low) k_low b_low G_hig (m n_hig) k_hig b_hig G_mat (m n_mat) k_mat b_mat G_eat (m n_eat) k_eat b_eat G_plyB
  have G_cas := ok_Cas F_cas B N G_pln (m n_pln) k_pln b_pln G_spo (m n_spo) k_spo b_spo G_ply (m n_ply) k_ply b_ply G_ltn (m n_ltn) k_ltn b_ltn G_fal (m n_fal) k_fal b_fal G_frt (m n_frt) k_frt b_frt G_mat (m n_mat) k_mat b_mat G_tns (m n_tns) k_tns b_tns G_eat (m n_eat) k_eat b_eat q_eat q_tns
  exact ok_Law F_law B G_cre (m n_cre) k_cre b_cre G_cas (m n_cas) k_cas b_cas
theorem walk {l : PySem.W.OpenLaw} {q : Program} {loose : List Str} {XP : (Str → Option Value) → Heap → Prop} {YP : World → Heap → Prop} {d : DefRec} {K : Params → PySem.W.Frag} (hn : l.most = some 63) (hdf : d.params.defaults = [])
    (hY : ∀ (w : World) (h : Heap), YP w h → (K w.params).In h)
    (F : ∀ (w : World) (mg : Str → Option Value) (fa : Addr) (h : Heap), (K w.params).In h → h.Ns mainGlobals mg → mg d.name = some (.ref fa) →
      ∃ fd : FuncData, (∀ (s : Shared) (u : Value), BindsTo s fd ⟨[u], []⟩ [("script", u)]) ∧ ∀ base : Heap, (K w.params).In base → base.Ns mainGlobals mg → FnOk l.prog w (K w.params) mg base CX0 11 fa fd ["script"] (spLaw (K w.params))) :
    PySem.W.WalkO q loose XP YP l.row.toRowW d [] (fun f vs => PySem.call f vs) :=
  L2.walk_of (n := 63) (k := 11) (x := "script") (CX := fun _ => CX0) (sp := fun w => spLaw (K w.params)) hn (by decide) hdf ⟨rfl, by decide, by decide⟩ hY F (fun _ _ a ns hl _ hS => ⟨a, ns, rfl, hS, hl, fun _ => rfl⟩) fun _ _ _ _ _ z => z
end S8
open PySem PySem.W PyProof.Rows
set_option maxRecDepth 100000 in
set_option maxHeartbeats 0 in
theorem PySem.Challenge.cw_runsdown_k28_ends_further_below_and_turn_holds : PySem.Challenge.rw_runsdown_k28_ends_further_below_and_turn.Holds := by
  w_on; o_law; k_head; (case hw => w_witness2)
  k_fill
  refine S8.walk (l := PySem.Challenge.rw_runsdown_k28_ends_further_below_and_turn) rfl rfl (fun w h Y => PySem.W.kIn_of Y) ?F
  case F =>
    intro w mg fa h KX G hmg
    refine' S8.all_mk KX G hmg ?aC ?mC ?kC ?aT ?aM ?aD ?n_ply ?n_cre ?n_int ?n_num ?n_thr ?n_yar ?n_mat ?n_csz ?n_ist ?n_ics ?n_icr ?n_cnr ?n_crw ?n_cwd ?n_spa ?n_lfe ?n_rge ?n_wlk ?n_shf ?n_rep ?n_rdt ?n_far ?n_eat ?n_trn ?n_tns ?n_stc ?n_pln ?n_sum ?n_mks ?n_spo ?n_low ?n_hig ?n_dip ?n_fal ?n_ltn ?n_frt ?n_cas ?n_law ?n_ini ?i_ini ?n_len ?i_len ?n_W ?q_W ?n_R ?q_R ?n_K ?q_K ?l_ply ?c_ply ?k_ply ?l_cre ?c_cre ?k_cre ?l_int ?c_int ?k_int ?l_num ?c_num ?k_num ?l_thr ?c_thr ?k_thr ?l_yar ?c_yar ?k_yar ?l_mat ?c_mat ?k_mat ?l_csz ?c_csz ?k_csz ?l_ist ?c_ist ?k_ist ?l_ics ?c_ics ?k_ics ?l_icr ?c_icr ?k_icr ?l_cnr ?c_cnr ?k_cnr ?l_crw ?c_crw ?k_crw ?l_cwd ?c_cwd ?k_cwd ?l_spa ?c_spa ?k_spa ?l_lfe ?c_lfe ?k_lfe ?l_rge ?c_rge ?k_rge ?l_wlk ?c_wlk ?k_wlk ?l_shf ?c_shf ?k_shf ?l_rep ?c_rep ?k_rep ?l_rdt ?c_rdt ?k_rdt ?l_far ?c_far ?k_far ?l_eat ?c_eat ?k_eat ?l_trn ?c_trn ?k_trn ?l_tns ?c_tns ?k_tns ?l_stc ?c_stc ?k_stc ?l_pln ?c_pln ?k_pln ?l_sum ?c_sum ?k_sum ?l_mks ?c_mks ?k_mks ?l_spo ?c_spo ?k_spo ?l_low ?c_low ?k_low ?l_hig ?c_hig ?k_hig ?l_dip ?c_dip ?k_dip ?l_fal ?c_fal ?k_fal ?l_ltn ?c_ltn ?k_ltn ?l_frt ?c_frt ?k_frt ?l_cas ?c_cas ?k_cas ?l_law ?c_law ?k_law ?l_ini ?c_ini ?k_ini ?l_len ?c_len ?k_len ?l_W ?c_W ?k_W ?l_R ?c_R ?k_R ?l_K ?c_K ?k_K ?hC ?hP ?hN
    (case aC => k_is)
    (case mC => k_is)
    (case kC => k_is)
    (case aT => k_is)
    (case aM => k_is)
    (case aD => k_is)
    (case n_ply => k_is)
    (case n_cre => k_is)
    (case n_int => k_is)
    (case n_num => k_is)
    (case n_thr => k_is)
    (case n_yar => k_is)
    (case n_mat => k_is)
    (case n_csz => k_is)
    (case n_ist => k_is)
    (case n_ics => k_is)
    (case n_icr => k_is)
    (case n_cnr => k_is)
    (case n_crw => k_is)
    (case n_cwd => k_is)
    (case n_spa => k_is)
    (case n_lfe => k_is)
    (case n_rge => k_is)
    (case n_wlk => k_is)
    (case n_shf => k_is)
    (case n_rep => k_is)
    (case n_rdt => k_is)
    (case n_far => k_is)
    (case n_eat => k_is)
    (case n_trn => k_is)
    (case n_tns => k_is)
    (case n_stc => k_is)
    (case n_pln => k_is)
    (case n_sum => k_is)
    (case n_mks => k_is)
    (case n_spo => k_is)
    (case n_low => k_is)
    (case n_hig => k_is)
    (case n_dip => k_is)
    (case n_fal => k_is)
    (case n_ltn => k_is)
    (case n_frt => k_is)
    (case n_cas => k_is)
    (case n_law => k_is)
    (case n_ini => k_is)
    (case i_ini => k_is)
    (case n_len => k_is)
    (case i_len => k_is)
    (case n_W => k_is)
    (case q_W => k_is)
    (case n_R => k_is)
    (case q_R => k_is)
    (case n_K => k_is)
    (case q_K => k_is)
    (case l_ply => k_is)
    (case c_ply => k_is)
    (case k_ply => k_is)
    (case l_cre => k_is)
    (case c_cre => k_is)
    (case k_cre => k_is)
    (case l_int => k_is)
    (case c_int => k_is)
    (case k_int => k_is)
    (case l_num => k_is)
    (case c_num => k_is)
    (case k_num => k_is)
    (case l_thr => k_is)
    (case c_thr => k_is)
    (case k_thr => k_is)
    (case l_yar => k_is)
    (case c_yar => k_is)
    (case k_yar => k_is)
    (case l_mat => k_is)
    (case c_mat => k_is)
    (case k_mat => k_is)
    (case l_csz => k_is)
    (case c_csz => k_is)
    (case k_csz => k_is)
    (case l_ist => k_is)
    (case c_ist => k_is)
    (case k_ist => k_is)
    (case l_ics => k_is)
    (case c_ics => k_is)
    (case k_ics => k_is)
    (case l_icr => k_is)
    (case c_icr => k_is)
    (case k_icr => k_is)
    (case l_cnr => k_is)
    (case c_cnr => k_is)
    (case k_cnr => k_is)
    (case l_crw => k_is)
    (case c_crw => k_is)
    (case k_crw => k_is)
    (case l_cwd => k_is)
    (case c_cwd => k_is)
    (case k_cwd => k_is)
    (case l_spa => k_is)
    (case c_spa => k_is)
    (case k_spa => k_is)
    (case l_lfe => k_is)
    (case c_lfe => k_is)
    (case k_lfe => k_is)
    (case l_rge => k_is)
    (case c_rge => k_is)
    (case k_rge => k_is)
    (case l_wlk => k_is)
    (case c_wlk => k_is)
    (case k_wlk => k_is)
    (case l_shf => k_is)
    (case c_shf => k_is)
    (case k_shf => k_is)
    (case l_rep => k_is)
    (case c_rep => k_is)
    (case k_rep => k_is)
    (case l_rdt => k_is)
    (case c_rdt => k_is)
    (case k_rdt => k_is)
    (case l_far => k_is)
    (case c_far => k_is)
    (case k_far => k_is)
    (case l_eat => k_is)
    (case c_eat => k_is)
    (case k_eat => k_is)
    (case l_trn => k_is)
    (case c_trn => k_is)
    (case k_trn => k_is)
    (case l_tns => k_is)
    (case c_tns => k_is)
    (case k_tns => k_is)
    (case l_stc => k_is)
    (case c_stc => k_is)
    (case k_stc => k_is)
    (case l_pln => k_is)
    (case c_pln => k_is)
    (case k_pln => k_is)
    (case l_sum => k_is)
    (case c_sum => k_is)
    (case k_sum => k_is)
    (case l_mks => k_is)
    (case c_mks => k_is)
    (case k_mks => k_is)
    (case l_spo => k_is)
    (case c_spo => k_is)
    (case k_spo => k_is)
    (case l_low => k_is)
    (case c_low => k_is)
    (case k_low => k_is)
    (case l_hig => k_is)
    (case c_hig => k_is)
    (case k_hig => k_is)
    (case l_dip => k_is)
    (case c_dip => k_is)
    (case k_dip => k_is)
    (case l_fal => k_is)
    (case c_fal => k_is)
    (case k_fal => k_is)
    (case l_ltn => k_is)
    (case c_ltn => k_is)
    (case k_ltn => k_is)
    (case l_frt => k_is)
    (case c_frt => k_is)
    (case k_frt => k_is)
    (case l_cas => k_is)
    (case c_cas => k_is)
    (case k_cas => k_is)
    (case l_law => k_is)
    (case c_law => k_is)
    (case k_law => k_is)
    (case l_ini => k_is)
    (case c_ini => k_is)
    (case k_ini => k_is)
    (case l_len => k_is)
    (case c_len => k_is)
    (case k_len => k_is)
    (case l_W => k_is)
    (case c_W => k_is)
    (case k_W => k_is)
    (case l_R => k_is)
    (case c_R => k_is)
    (case k_R => k_is)
    (case l_K => k_is)
    (case c_K => k_is)
    (case k_K => k_is)
    (case hC => kernel_rfl)
    (case hP => kernel_rfl)
    (case hN => kernel_rfl)
