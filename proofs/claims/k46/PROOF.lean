import PyProof.Rows.All
import Wide.All
import OpenK.AllK
import Wide.FinOn
import HandS.ForExc
import HandS.HotCalls
import HandS.ExcInit
import HandS.ExcIs
import HandS.ExcField
import KE.KIsAll
import PyProof.Rows.CountFlat
import HandS.ForMost
import HandS.Wide
import HandS.Walk
import HandS.IsInst
import HandS.Comp
import HandS.Conv
import HandS.Zip
import HandS.Strs
import HandS.TupAny
import HandS.SortInts
import HandS.Style
import HandS.Iter
import HandS.Property
import HandS.ExcCtx
import OpenK.KOps
import HandS.MakeKwOnly
import HandS.Ends
import PyProof.ReprRoads
import HandS.OwnEq
import HandS.Set
import HandS.SetBool
import PyProof.Rows.SortStr
import PyProof.Rows.SortShellAny
import HandS.Base
import HandS.Call
import HandS.List
import HandS.RevRange
import HandS.RaiseMore
import PyProof.ReprLen
import PyProof.CallStr
import HandS.Text
import PyProof.CollectIter
import HandS.Deep
import HandS.Sort
import HandS.SetFor
import HandS.TryOnly
import HandS.TupLe
import OpenK.KMeth
import PySem.Challenge.RW_runsdown_k46_cloths_as_text
set_option Elab.async false
set_option linter.all false
set_option maxRecDepth 100000
set_option maxHeartbeats 4000000
/-! An own error class over ValueError, called with positional values and keywords: the model's own steps. -/
namespace MXa
open PySem PySem.W PySem.Calls PyProof.Rows PySem.HandSPX
open Builtin Builtin.ObjectAttr
section
variable {M : Model} {prog : Program} {w : World} {A : Around} {E : Value → Shared → Prop} {R : Result → Shared → Prop} {h : Heap} {g : Array GenState} {d : Drawn} {t : Nat} {os : OsState}
variable {nm q : Str} {C N : Addr} {bs bm bmB : List Value} {hdct : Bool} {sn : List Str} {sub : List Value} {ab : Bool} {col : Option Bool} {dd : Option Addr} {k0 k1 k2 k3 k5 : Option Value} {B newId initId : String}

theorem newCheck (F : ExcBaseFacts B newId initId bmB) (hT : ∀ X : String, bm.contains (.type X) = bmB.contains (.type X)) {ps : List Value} {kw : List (Str × Value)} {Q : Unit → Shared → Prop}
    (cl : h.get? C = some (excClassObj nm q C N bs bm hdct sn sub ab col dd k0 k1 k2 k3 k5 newId)) (go : Q () ⟨h, g, d, t, os⟩) : wpAny M A (checkBuiltinCall newId ⟨.ref C :: ps, kw⟩) Q E ⟨h, g, d, t, os⟩ := by
  have has : (Value.ref C :: bm).contains (.type B) = true := by
    rw [List.contains_cons, hT, F.hasB, Bool.or_true]
  have star := F.noStar
  simp only [checkBuiltinCall, F.newKind, F.newSplit, F.newRow]
  repeat (first
    | refine wpAny_loadPart_at cl ?_
    | (refine wpAny_isSubtype_exc cl ?_; rw [has])
    | refine wpAny_staticBase_exc cl ?_
    | refine wpAny_madeBy_exc cl ?_
    | simp only [bne_self_eq_false, Bool.false_eq_true, if_false]
    | wp_step)
  all_goals first | exact go | trace_state

theorem newBody (F : ExcBaseFacts B newId initId bmB) (hT : ∀ X : String, bm.contains (.type X) = bmB.contains (.type X)) {ps : List Value} {kw : List (Str × Value)}
    (cl : h.get? C = some (excClassObj nm q C N bs bm hdct sn sub ab col dd k0 k1 k2 k3 k5 newId)) (short : ps.length ≤ sizeLine)
    (go : R (.ok (.ret (.ref (h.objs.size + 1)))) ⟨(h.push (W.kdv_tup ps)).push (excO C h.objs.size), g, d, t, os⟩) :
    codeAny (model prog w) A (.builtin newId ⟨.ref C :: ps, kw⟩) R ⟨h, g, d, t, os⟩ := by
  have es := F.ends
  have yB : (Value.ref C :: bm).contains (.type B) = true := by
    rw [List.contains_cons, hT, F.hasB, Bool.or_true]
  have nA : (Value.ref C :: bm).contains (.type "AttributeError") = false := by
    rw [List.contains_cons, hT, F.noAttr]
    rfl
  have nN : (Value.ref C :: bm).contains (.type "NameError") = false := by
    rw [List.contains_cons, hT, F.noName]
    rfl
  refine codeAny_builtinAt F.entry ?_
  unfold Builtin.«BaseException.__new__»
  refine PySem.wpAt_bind ?_
  show PySem.wpAt _ _ _ (stack >>= _) _ _ _
  refine PySem.wpAt_bind (PySem.wpAt_stack fun z zs => PySem.wpAt_of_wpAny ?_)
  wp_walk
  refine PySem.wpAt_of_wpAny ?_
  rw [F.owner]
  repeat (first
    | with_reducible refine wpAny_madeHere_exc F.canon cl ?_
    | with_reducible refine wpAny_loadPart_at cl ?_
    | (with_reducible refine wpAny_isSubtype_exc cl ?_; first | rw [yB] | rw [nA] | rw [nN])
    | wp_step)
  show R _ _
  rw [Heap.size_push]
  exact go

theorem typeCall (F : ExcBaseFacts B newId initId bmB) (hT : ∀ X : String, bm.contains (.type X) = bmB.contains (.type X)) {ps : List Value} {kw : List (Str × Value)} {fI : Addr} {Q : Fin → Shared → Prop}
    (cl : h.get? C = some (excClassObj nm q C N bs bm hdct sn sub ab col dd k0 k1 k2 k3 k5 newId)) (short : ps.length ≤ sizeLine)
    (fi : W.Looks (model prog w) h (typeLookup (.ref C) "__init__") (some (.ref fI))) (bi : ∀ self, W.Looks (model prog w) h (bindSpecial (.ref fI) self) (.ref fI, [self]))
    (go : codeAny (model prog w) A (.call (.ref fI) ⟨.ref (h.objs.size + 1) :: ps, kw⟩)
      (fun r s' => match r with | .ok (.ret v) => v = .none ∧ Q (.done (.ret (.ref (h.objs.size + 1)))) s' | .ok _ => False | .error e => E e s')
      ⟨(h.push (W.kdv_tup ps)).push (excO C h.objs.size), g, d, t, os⟩) :
    wpAny (model prog w) A (Builtin.«type.__call__» ⟨.ref C :: ps, kw⟩) Q E ⟨h, g, d, t, os⟩ := by
  repeat (first
    | with_reducible refine wpAny_loadPart_at cl ?_
    | with_reducible refine wpAny_madeBy_exc cl ?_
    | wp_step)
  refine codeAny_call_builtin_code (Code.quiet_builtin _ F.quiet) (newCheck F hT cl ?_)
  refine newBody F hT cl short ?_
  show wpAny _ _ _ _ _ _
  have up : ∀ b o, h.get? b = some o → ((h.push (W.kdv_tup ps)).push (excO C h.objs.size)).get? b = some o := fun b o e =>
    Heap.get?_push_of_some _ (Heap.get?_push_of_some _ e)
  have cl1 := up _ _ cl
  have at1 : ((h.push (W.kdv_tup ps)).push (excO C h.objs.size)).get? (h.objs.size + 1) = some (excO C h.objs.size) := by
    heap_get
  have yC : (Value.ref C :: bm).contains (.ref C) = true := by simp
  have fi1 := fi.keeps up
  have bi1 := (bi (.ref (h.objs.size + 1))).keeps up
  unfold isInstance
  repeat (first
    | with_reducible refine wpAny_loadPart_at at1 ?_
    | (with_reducible refine wpAny_isSubtype_exc cl1 ?_; rw [yC])
    | wp_step)
  show wpAny _ _ (typeLookup (.ref C) _) _ _ _
  refine fi1.at (wpAny_holding (wpAny_bind (bi1.at (wpAny_bind (wpAny_call (codeAny_mono go fun r s' z => ?_))))))
  rcases r with e | (v | _ | _ | _) <;> first | exact z | exact z.elim | skip
  obtain ⟨rfl, z⟩ := z
  first
    | exact wpAny_pure (wpAny_pure z)
    | (wp_walk; exact z)

theorem typeCallCheck {ps : List Value} {kw : List (Str × Value)} {Q : Unit → Shared → Prop} (cl : h.get? C = some (excClassObj nm q C N bs bm hdct sn sub ab col dd k0 k1 k2 k3 k5 newId))
    (go : Q () ⟨h, g, d, t, os⟩) : wpAny M A (checkBuiltinCall "type.__call__" ⟨.ref C :: ps, kw⟩) Q E ⟨h, g, d, t, os⟩ := by
  have f3 := tc_sub
  have ty : (⟨h, g, d, t, os⟩ : Shared).TypeIs (.ref C) "type" := ⟨_, cl, rfl⟩
  simp only [checkBuiltinCall, tc_kind, tc_split]
  repeat (any_goals (first
    | assumption
    | with_reducible refine wpAny_loadPart_at cl ?_
    | with_reducible refine wpAny_onRaise ?_
    | with_reducible refine wpAny_map ?_
    | wp_step))
  all_goals trace_state

theorem callOwn (F : ExcBaseFacts B newId initId bmB) (hT : ∀ X : String, bm.contains (.type X) = bmB.contains (.type X)) {ps : List Value} {kw : List (Str × Value)} {fI : Addr}
    (cl : h.get? C = some (excClassObj nm q C N bs bm hdct sn sub ab col dd k0 k1 k2 k3 k5 newId)) (short : ps.length ≤ sizeLine)
    (fi : W.Looks (model prog w) h (typeLookup (.ref C) "__init__") (some (.ref fI))) (bi : ∀ self, W.Looks (model prog w) h (bindSpecial (.ref fI) self) (.ref fI, [self]))
    (go : codeAny (model prog w) (A.under (.builtin "type.__call__" ⟨.ref C :: ps, kw⟩)) (.call (.ref fI) ⟨.ref (h.objs.size + 1) :: ps, kw⟩) (W.InitBack (h.objs.size + 1) R)
      ⟨(h.push (W.kdv_tup ps)).push (excO C h.objs.size), g, d, t, os⟩) :
    codeAny (model prog w) A (.call (.ref C) ⟨ps, kw⟩) R ⟨h, g, d, t, os⟩ := by
  have f1 := tc_lookup
  have f2 := tc_bind (.ref C)
  have ty : (⟨h, g, d, t, os⟩ : Shared).TypeIs (.ref C) "type" := ⟨_, cl, rfl⟩
  refine codeAny_of_tree ?_
  show wpAny _ _ (callAny (.ref C) _) _ _ _
  repeat (any_goals (first
    | assumption
    | with_reducible refine wpAny_loadPart_at cl ?_
    | wp_step))
  refine ⟨rfl, ?_⟩
  refine codeAny_call_builtin_at (Code.quiet_builtin _ (by decide +kernel)) entry_typeCall (typeCallCheck cl (typeCall F hT cl short fi bi ?_))
  refine codeAny_mono go fun r s' z => ?_
  rcases r with e | (v | _ | _ | _) <;> exact z
end
end MXa
/-! Own error classes with one inherited __init__ that stores one field: made, raised, read, asked. -/
namespace MXb
open PySem PySem.Spec PyProof.Rows L2
abbrev St := L2.St
/-- what the written part says of an error class at C whose __init__ stands at fI and stores the field fl -/
structure XC (K : PySem.W.Frag) (mg : Str → Option Value) (fI C : Addr) (nm fl : Str) : Prop where
  gC : mg nm = some (.ref C)
  ox : OexC K C
  ini : PySem.W.findIn K (.ref C) "__init__" = some (some (.ref fI))
  tyI : PySem.W.typeIn K (.ref fI) = some (.type "function")
  noF : PySem.W.findIn K (.ref C) fl = some none
  xf : XfC K C
  ec : ExcC K C
/-- __init__(self, fl): self.fl = fl -/
def spInit (K : PySem.W.Frag) (fl : Str) : Sp := fun vs H Q _ => ∃ (e C : Addr) (y : V), vs = [.ref e, y] ∧ OexC K C ∧ PySem.W.findIn K (.ref C) fl = some none ∧ H e = some (exo e C none) ∧
  ∀ d, H d = none → d ≠ e → Q .non (upd (upd H d (exd d [(fl, y)])) e (exo e C (some d)))
/-- how the one value comes to __init__: positional (kw none), or by its name -/
structure Bind1 (K : PySem.W.Frag) (fd : FuncData) (fl : Str) : Prop where
  pos : ∀ (s : Shared) (a u : Value), K.In s.heap → BindsTo s fd ⟨[a, u], []⟩ ((["self", fl] : List Str).zip [a, u])
  kw : ∀ (s : Shared) (a u : Value), K.In s.heap → BindsTo s fd ⟨[a], [(fl, u)]⟩ ((["self", fl] : List Str).zip [a, u])
/-- the abstract heap behind C(y): the new error at a, its dict at d -/
def hMade (H : Hp) (a d C : Addr) (fl : Str) (y : V) : Hp := upd (upd (upd H a (exo a C none)) d (exd d [(fl, y)])) a (exo a C (some d))
section
variable {X : Cx} {fI C : Addr} {nm fl : Str} {k : Nat} {fd : FuncData}
theorem run_x {pins : List (Addr × Obj)} {σ : St} {H : Hp} {s : Shared} {y : V} {u : Value} {ps : List Value} {kw : List (Str × Value)} {R : Value → Shared → Prop} (T : XC X.K X.mg fI C nm fl)
    (F1 : FnOk X.prog X.w X.K X.mg X.base CX0 k fI fd ["self", fl] (spInit X.K fl)) (hr : Room (k + 1) X.A) (I : Inv X pins σ H s) (r : RelV y u) (short : ps.length ≤ sizeLine)
    (bi : ∀ (s : Shared) (a : Value), X.K.In s.heap → BindsTo s fd ⟨a :: ps, kw⟩ ((["self", fl] : List Str).zip [a, u]))
    (fin : ∀ (s2 : Shared) (d : Addr), H (s.heap.objs.size + 1) = none → H d = none → d ≠ s.heap.objs.size + 1 → s2.os = s.os → AllBare s2.gens →
      Inv X pins σ (hMade H (s.heap.objs.size + 1) d C fl y) s2 →
      Un (frs X.stack) [] (upd H (s.heap.objs.size + 1) (exo (s.heap.objs.size + 1) C none)) (hMade H (s.heap.objs.size + 1) d C fl y) ((s.heap.push (PySem.W.kdv_tup ps)).push (PySem.HandSPX.excO C s.heap.objs.size)) s2.heap →
      HOk X.prog X.w (hMade H (s.heap.objs.size + 1) d C fl y) s2.heap → R (.ref (s.heap.objs.size + 1)) s2) :
    wpAny (model X.prog X.w) X.A (call (.ref C) ps kw) R X.xe s := by
  obtain ⟨n0, q0, N0, bs0, bm, sn0, sub0, ab0, col0, dd0, k0, k1, k2, k3, k5, hC, hbm⟩ := T.ox.cls
  obtain ⟨hp, g, dr, tk, os⟩ := s
  have above : hp.objs.size ≤ hp.objs.size + 1 := Nat.le_succ _
  have free : H (hp.objs.size + 1) = none := I.hok.fresh above
  have up : ∀ b o, hp.get? b = some o → ((hp.push (PySem.W.kdv_tup ps)).push (PySem.HandSPX.excO C hp.objs.size)).get? b = some o := fun b o e =>
    Heap.get?_push_of_some _ (Heap.get?_push_of_some _ e)
  have at1 : ((hp.push (PySem.W.kdv_tup ps)).push (PySem.HandSPX.excO C hp.objs.size)).get? (hp.objs.size + 1) = some (PySem.HandSPX.excO C hp.objs.size) := by
    heap_get
  have J : Inv X pins σ (upd H (hp.objs.size + 1) (exo (hp.objs.size + 1) C none)) ⟨(hp.push (PySem.W.kdv_tup ps)).push (PySem.HandSPX.excO C hp.objs.size), g, dr, tk, os⟩ :=
    Inv.laid (I := I) (t' := tk) (a := hp.objs.size + 1) (o := exo (hp.objs.size + 1) C none) (h' := (hp.push (PySem.W.kdv_tup ps)).push (PySem.HandSPX.excO C hp.objs.size)) up above (exo_ok at1)
  have rr : Vals [V.ref (hp.objs.size + 1), y] [Value.ref (hp.objs.size + 1), u] := .cons rfl (.cons r .nil)
  refine wpAny_call (MXa.callOwn F.excBase_ValueError (fun Y => PySem.HandSPX.refsVE_contains Y bm hbm) (I.kIn _ _ hC) short (PySem.W.looks_findIn I.kIn T.ini) (fun self => PySem.W.bind_fn I.kIn self T.tyI)
    (codeAny_mono (F1.run _ X.stack _ _ ⟨Value.ref (hp.objs.size + 1) :: ps, kw⟩ [Value.ref (hp.objs.size + 1), u] [V.ref (hp.objs.size + 1), y]
      (fun v H2 => v = .non ∧ ∃ d, H d = none ∧ d ≠ hp.objs.size + 1 ∧ H2 = hMade H (hp.objs.size + 1) d C fl y) E0 (hr.make C ps kw) (J.env0.make C ps kw) (bi _ _ J.kIn) rr
      ⟨hp.objs.size + 1, C, y, rfl, T.ox, T.noF, upd_same, fun d nd ne => ⟨rfl, d, by rw [upd_ne ne] at nd; exact nd, ne, rfl⟩⟩) fun r2 s2 z => ?_))
  cases r2 with
  | error er => exact z.elim
  | ok fl2 =>
    cases fl2 with
    | ret v2 =>
      obtain ⟨v, H', I3, rv, ev, d, nd, ne, rfl⟩ := J.after z
      obtain ⟨v', H2', os2, bare2, un2, hok2, rv', ev', d', nd', ne', eH⟩ := z
      subst ev
      refine ⟨rv, ?_⟩
      subst eH
      have J2 := J.after (Q := fun v H2 => v = v' ∧ H2 = hMade H (hp.objs.size + 1) d' C fl y) ⟨v', _, os2, bare2, un2, hok2, rv', rfl, rfl⟩
      obtain ⟨_, _, I4, _, rfl, rfl⟩ := J2
      exact fin s2 d' free nd' ne' os2 bare2 I4 un2 hok2
    | next => exact False.elim z
    | brk => exact False.elim z
    | cont => exact False.elim z
end
end MXb
/-! The class of an error that has a dict of its own; isinstance of it. -/
namespace MXc
open PySem PySem.W PySem.Spec PySem.Calls PyProof.Rows
section
variable {prog : Program} {w : World} {A : Around} {E : Value → Shared → Prop} {s : Shared} {K : Frag} {x D : Addr} {ox : Obj} {od : Option Obj}
theorem found {C : Addr} {name : Str} {a g : Value} (c1 : (clsIn K C).isSome = true) (c2 : findIn K (.ref C) name = some (some a)) (c3 : specialIn K a "__get__" = some (some g)) (c4 : takesIn K a = some true) : findObj K C od name = some (.bind g a) := by
  obtain ⟨cd, e⟩ := Option.isSome_iff_exists.mp c1
  unfold findObj
  rw [e, Option.bind_some, c2, Option.bind_some]
  simp [c3, c4]
theorem askClass {Q : Option Value → Shared → Prop} (T : L2.ExcC K D) (X : K.In s.heap) (I : InstAt s.heap x ox D od) (go : Q (some (.ref D)) { s with toks := s.toks + 1 }) :
    wpAny (model prog w) A (getAttr? (.ref x) "__class__") Q E s := by
  have fo : findObj K D od "__class__" = some (.bind (.builtin "getset_descriptor.__get__") (.builtin "object.__class__")) :=
    found (by obtain ⟨cd, e, _⟩ := any_some T.hd; rw [e]; rfl) T.ha T.hn T.ht
  obtain ⟨hp, g, d, t, os⟩ := s
  have a0 := I.type (M := model prog w)
  have a1 := looks_findIn (M := model prog w) X T.hg
  have a2 := looks_findIn (M := model prog w) X T.hk
  have a3 := looks_find (M := model prog w) X I fo
  have below : Looks (model prog w) hp (isInstance (.ref x) (.type "BaseException")) true :=
    a0.andThen (looks_subIn X T.hs)
  have z2 : (Value.builtin "BaseException.__getattribute__" == Value.builtin "object.__getattribute__") = false := by
    decide +kernel
  have z1 : (onTheHeap (Value.ref D) && Value.builtin "BaseException.__getattribute__" == Value.builtin "object.__getattribute__") = false := by
    rw [z2]
    rfl
  have z0 : (false && onTheHeap (Value.builtin "BaseException.__getattribute__")) = false := rfl
  unfold getAttr? getAttrBy? getAttrBy
  refine wpAny_bind (wpAny_mkText (wpAny_bind (wpAny_attempt (wpAny_holding (wpAny_bind (a0.at (wpAny_bind (a1.at ?_))))))))
  show wpAny _ _ (if (onTheHeap (Value.ref D) && Value.builtin "BaseException.__getattribute__" == Value.builtin "object.__getattribute__") = true then _ else _) _ _ _
  rw [z1]
  rw [if_neg Bool.false_ne_true]
  unfold getAttrByItsOwn hookBefore
  refine wpAny_bind ?_
  rw [if_pos (show onTheHeap (Value.ref D) = true from rfl)]
  refine a2.at (wpAny_bind (wpAny_attempt (wpAny_holding ?_)))
  unfold callGetattribute
  rw [z0]
  rw [if_neg Bool.false_ne_true]
  unfold boundAndCalled
  rw [PySem.F.excAttr_ValueError.ga.bind (.ref x)]
  refine wpAny_bind (wpAny_pure ?_)
  show wpAny _ _ (call (.builtin "BaseException.__getattribute__") [.ref x, .str "__class__" t]) _ _ _
  refine wpAny_call (codeAny_call_builtin PySem.F.excAttr_ValueError.ga.plain PySem.F.entry_bexc_ga ?_)
  refine @check_slot (model prog w) _ _ ⟨hp, g, d, t + 1, os⟩ "BaseException.__getattribute__" "BaseException" "__getattribute__" (.ref x)
    [.str "__class__" t] [] _ (by decide +kernel) (by decide +kernel) below (PySem.F.args_bexc_ga (.ref x) (.str "__class__" t)) ?_
  unfold Builtin.«object.__getattribute__»
  refine wpAny_bind (wpAny_of_eq (a := ((Value.ref x : Value), [Value.str "__class__" t])) (by first | rfl | (simp only [slotArgs]; rfl)) ?_)
  refine wpAny_bind (wpAny_pure (wpAny_bind (a0.at (wpAny_bind (a3.at ?_)))))
  show wpAny _ _ (holding [Value.builtin "object.__class__"] (call (.builtin "getset_descriptor.__get__") [.builtin "object.__class__", .ref x, .ref D]) >>= ret) _ _ _
  refine wpAny_bind (wpAny_holding (wpAny_call (class_get (s := ⟨hp, g, d, t + 1, os⟩) (ox := ox) (od := od) X I T.hm (wpAny_pure ?_))))
  show wpAny _ _ (handedOut (.ref D)) _ _ _
  rw [handedOut_of (v := .ref D) rfl]
  first
    | exact wpAny_pure (wpAny_pure go)
    | exact wpAny_pure go
    | exact wpAny_pure (wpAny_bind (wpAny_pure (wpAny_pure go)))
theorem kit_err (T : L2.ExcC K D) : KitX K (.ref x) (.ref D) (fun h => InstAt h x ox D od) := by
  obtain ⟨cdD, hcD, _⟩ := any_some T.hd
  have at0 : ∃ c' d' cd' sl', K.lookup D = some ⟨c', d', .cls cd', sl'⟩ := by
    unfold clsIn at hcD
    split at hcD
    · rename_i c' d' cd' sl' ho
      exact ⟨_, _, _, _, ho⟩
    · cases hcD
  obtain ⟨c', d', cd', sl', ho⟩ := at0
  refine ⟨fun _ _ _ I => I.type, fun _ _ X _ => ?_, fun h tp dd its n sl X htp => ?_, fun X I k => askClass T X I k⟩
  · intro A' Q' E' s' k q
    unfold isType loadHead
    exact wpAny_bind (wpAny_loadPart (k _ _ (X _ _ ho)) (wpAny_pure q))
  · refine Bool.eq_false_iff.mpr fun q => ?_
    obtain rfl : D = tp := Value.ref.inj (beq_iff_eq.mp q)
    have z := (X _ _ ho).symm.trans htp
    cases z
end
end MXc
/-! Readings and rules: C(e) raised, C(e) and C(fl = e) as values, their field, a def that is handed the error of an except suite, isinstance there. -/
namespace MXd
open PySem PySem.Spec PyProof.Rows L2 MXb
abbrev St := L2.St
/-- raise C(e): the way out -/
def tMk1 (C : Addr) (fl : Str) (te : TE) : St → Hp → XK → Prop := fun σ H Q => te σ H fun v H1 => ∀ d, H1 d = none → Q (.ref C) (some d) (upd H1 d (.xd [(fl, v)]))
/-- C(e) as a value: the new error at a, its dict at d -/
def tMkV (C : Addr) (fl : Str) (te : TE) : TE := fun σ H Q => te σ H fun v H1 => ∀ a d, H1 a = none → H1 d = none → d ≠ a → Q (.ref a) (hMade H1 a d C fl v)
def tMkK (C : Addr) (fl : Str) (tk : TA) : TE := fun σ H Q => tk σ H fun vs H1 => ∃ v, vs = [v] ∧ ∀ a d, H1 a = none → H1 d = none → d ≠ a → Q (.ref a) (hMade H1 a d C fl v)
/-- e.fl, e an error that was just made -/
def tFx (K : PySem.W.Frag) (fl : Str) (te : TE) : TE := fun σ H Q => te σ H fun x H1 => ∃ (a C d : Addr) (fs : List (Str × V)) (v : V), x = .ref a ∧ XfC K C ∧ PySem.W.findIn K (.ref C) fl = some none ∧
  H1 a = some (exo a C (some d)) ∧ H1 d = some (exd d fs) ∧ fs.lookup fl = some v ∧ Q v H1
theorem made_end {H : Hp} {a d C : Addr} {fl : Str} {y : V} {o : HO} (na : H a = none) (ne : d ≠ a) : upd (del (hMade H a d C fl y) a) d o = upd H d o := by
  funext b
  by_cases hd : b = d
  · rw [hd, upd_same, upd_same]
  · rw [upd_ne hd, upd_ne hd]
    by_cases ha : b = a
    · rw [ha, del_same, na]
    · unfold hMade
      rw [del_ne ha, upd_ne ha, upd_ne hd, upd_ne ha]
theorem made_a {H : Hp} {a d C : Addr} {fl : Str} {y : V} : hMade H a d C fl y a = some (exo a C (some d)) := upd_same
theorem made_d {H : Hp} {a d C : Addr} {fl : Str} {y : V} (ne : d ≠ a) : hMade H a d C fl y d = some (exd d [(fl, y)]) := by
  unfold hMade
  rw [upd_ne ne, upd_same]
theorem made_o {H : Hp} {a d C : Addr} {fl : Str} {y : V} {b : Addr} {o : HO} (na : H a = none) (nd : H d = none) (e : H b = some o) : hMade H a d C fl y b = some o := by
  unfold hMade
  rw [upd_ne (ne_of_none e na), upd_ne (ne_of_none e nd), upd_ne (ne_of_none e na)]
  exact e
section
variable {X : Cx} {fI C : Addr} {nm fl : Str} {k : Nat} {fd : FuncData} {e : Expr} {te : TE} {tk : TA} {p pos kpos : Pos}
theorem pmk1 (T : XC X.K X.mg fI C nm fl) (F1 : FnOk X.prog X.w X.K X.mg X.base CX0 k fI fd ["self", fl] (spInit X.K fl)) (bd : Bind1 X.K fd fl) (hr : Room (k + 1) X.A) (hg : Gl X nm) (he : PE X e te)
    (hdb : (nm == ("__debug__" : Str)) = false := by decide) (hst : starEach [e] X.env = (false, eval e X.env) :: starEach [] X.env := by rfl) (hpl : (backTo pos (starEach [] X.env)).any (·.1) = false := by rfl) :
    L2N.PMk X (.Call (.Name nm p) [e] [] pos) (tMk1 C fl te) := by
  intro pins s σ H Q I h
  refine wpAny_Call_Name_kw (ld_glob I hg T.gC ?_ hdb)
  have ha : PA X [e] (tCons te tNil) := pa_cons he pa_nil hst
  refine PySem.W.callWith_K (h₀ := X.base) I.ok.mod.kin T.ox.kC (thn (ha.run pos pins s σ H (fun vs H1 => ∃ v, vs = [v] ∧ ∀ d, H1 d = none → Q (.ref C) (some d) (upd H1 d (.xd [(fl, v)])))
    I (show te σ H _ from ?_)) fun us s1 ⟨vs, H1, I1, r1, v, ev, q1⟩ => ⟨I1.kIn, ?_⟩) hst hpl
  · have imp : ∀ {Q1 Q2 : VK}, Q1 = Q2 → te σ H Q1 → te σ H Q2 := fun e z => e ▸ z
    refine imp ?_ h
    funext v H1
    exact propext ⟨fun z => ⟨v, rfl, z⟩, fun ⟨v', e', z⟩ => by cases e'; exact z⟩
  · subst ev
    obtain ⟨u, rfl, ru⟩ := r1.one
    refine run_x T F1 hr I1 ru (show 1 ≤ sizeLine by rw [sizeLine_eq]; decide) (fun s a X => bd.pos s a u X) fun s2 d na nd ne os2 bare2 I4 un2 hok2 => ?_
    obtain ⟨hp, g, dr, t, os⟩ := s1
    obtain ⟨h2, g2, d2, t2, os'⟩ := s2
    have up : ∀ b o, hp.get? b = some o → ((hp.push (PySem.W.kdv_tup [u])).push (PySem.HandSPX.excO C hp.objs.size)).get? b = some o := fun b o e =>
      Heap.get?_push_of_some _ (Heap.get?_push_of_some _ e)
    obtain ⟨t0, G, J, kG, ge, hoe, na2⟩ := mk_end0 (d2 := d2) (t2 := t2) I1 (Nat.le_succ _) up un2 hok2 os2 bare2 made_a (made_d ne) nd
    have q2 := q1 d nd
    rw [← made_end (C := C) (fl := fl) (y := v) na ne] at q2
    exact ⟨hp.objs.size + 1, _, _, ⟨G, g2, d2, t2, os'⟩, _, .ref C, some d, rfl, J, kG, ge, hoe, ⟨rfl, rfl, fun vs e => by cases e; rfl⟩, rfl, rfl, na2, rfl, bare2, raises_own T.ox.exC T.ox.tyC, q2⟩
theorem pe_mkv (T : XC X.K X.mg fI C nm fl) (F1 : FnOk X.prog X.w X.K X.mg X.base CX0 k fI fd ["self", fl] (spInit X.K fl)) (bd : Bind1 X.K fd fl) (hr : Room (k + 1) X.A) (hg : Gl X nm) (he : PE X e te)
    (hdb : (nm == ("__debug__" : Str)) = false := by decide) (hst : starEach [e] X.env = (false, eval e X.env) :: starEach [] X.env := by rfl) (hpl : (backTo pos (starEach [] X.env)).any (·.1) = false := by rfl) :
    PE X (.Call (.Name nm p) [e] [] pos) (tMkV C fl te) := by
  refine ⟨fun pins s σ H Q I h => ?_⟩
  refine wpAny_Call_Name_kw (ld_glob I hg T.gC ?_ hdb)
  have ha : PA X [e] (tCons te tNil) := pa_cons he pa_nil hst
  refine PySem.W.callWith_K (h₀ := X.base) I.ok.mod.kin T.ox.kC (thn (ha.run pos pins s σ H (fun vs H1 => ∃ v, vs = [v] ∧ ∀ a d, H1 a = none → H1 d = none → d ≠ a → Q (.ref a) (hMade H1 a d C fl v))
    I (show te σ H _ from ?_)) fun us s1 ⟨vs, H1, I1, r1, v, ev, q1⟩ => ⟨I1.kIn, ?_⟩) hst hpl
  · have imp : ∀ {Q1 Q2 : VK}, Q1 = Q2 → te σ H Q1 → te σ H Q2 := fun e z => e ▸ z
    refine imp ?_ h
    funext v H1
    exact propext ⟨fun z => ⟨v, rfl, z⟩, fun ⟨v', e', z⟩ => by cases e'; exact z⟩
  · subst ev
    obtain ⟨u, rfl, ru⟩ := r1.one
    exact run_x T F1 hr I1 ru (show 1 ≤ sizeLine by rw [sizeLine_eq]; decide) (fun s a X => bd.pos s a u X) fun s2 d na nd ne os2 bare2 I4 un2 hok2 => ⟨V.ref (s1.heap.objs.size + 1), _, I4, rfl, q1 _ d na nd ne⟩
theorem pe_mkK (T : XC X.K X.mg fI C nm fl) (F1 : FnOk X.prog X.w X.K X.mg X.base CX0 k fI fd ["self", fl] (spInit X.K fl)) (bd : Bind1 X.K fd fl) (hr : Room (k + 1) X.A) (hg : Gl X nm) {kws : List Keyword} (hk : PK X kws tk)
    (hall : (backToKw pos (keywordEach kws X.env)).all (·.1.isSome) = true := by rfl) (hks : (backToKw pos (keywordEach kws X.env)).filterMap (·.1) = [fl] := by rfl)
    (hdb : (nm == ("__debug__" : Str)) = false := by decide)
    (hpl : ((backTo pos (starEach [] X.env)).any (·.1) || (backToKw pos (keywordEach kws X.env)).any (·.1.isNone)) = false := by rfl) :
    PE X (.Call (.Name nm p) [] kws pos) (tMkK C fl tk) := by
  refine ⟨fun pins s σ H Q I h => ?_⟩
  refine wpAny_Call_Name_kw (ld_glob I hg T.gC ?_ hdb)
  refine PySem.W.callWith_KW0 (h₀ := X.base) I.ok.mod.kin T.ox.kC hall ?_ hpl
  refine thn (hk.run pos pins s σ H _ I h) fun ws s2 ⟨zs, H2, I2, rz, v, ev, q2⟩ => ⟨I2.kIn, ?_⟩
  subst ev
  obtain ⟨u, rfl, ru⟩ := rz.one
  rw [hks]
  exact run_x (ps := []) (kw := [(fl, u)]) T F1 hr I2 ru (by rw [sizeLine_eq]; decide) (fun s a X => bd.kw s a u X) fun s3 d na nd ne os2 bare2 I4 un2 hok2 => ⟨V.ref (s2.heap.objs.size + 1), _, I4, rfl, q2 _ d na nd ne⟩
theorem pe_fx (he : PE X e te) (hb : attributeBase e fl X.env (eval e X.env) = eval e X.env := by rfl) : PE X (.Attribute e fl pos) (tFx X.K fl te) := by
  refine ⟨fun pins s σ H Q I h => ?_⟩
  refine attr_of hb (thn (he.run pins s σ H _ I h) fun u s1 hh => ?_)
  obtain ⟨x, H1, I1, rx, a, C, d, fs, v, rfl, T, no, ea, ed, l, q⟩ := hh
  obtain rfl : u = Value.ref a := rx
  obtain ⟨t1, ho⟩ := exo_at I1.hok ea
  obtain ⟨mA, ns, rel⟩ := exd_at I1.hok ed
  obtain ⟨od, hod, lk⟩ := lookIn_ns ns
  obtain ⟨u, hu, ru⟩ := RelO.some_of (v := v) (o := mA fl) (by rw [← l]; exact rel fl)
  have J : PySem.W.InstAt s1.heap a { cls := .ref C, dict := some d, data := .fields #[.ref t1, .none, .none, .none, .bool false, .none] } C (some od) := ⟨ho, rfl, rfl, hod⟩
  exact HandSPX.exc_get I1.kIn J T.ga T.gg T.exC (PySem.W.findObj_own T.hdC no rfl (by rw [lk, hu])) (handed_of ru) ⟨v, H1, I1.tok _, ru, q⟩
end
end MXd
/-! A def that an except suite hands its error to. -/
namespace MXe
open PySem PySem.Spec PyProof.Rows L2 L2H
abbrev St := L2.St
/-- a pinned error of the class at C, its dict at d -/
structure ErrP (C d : Addr) (p : Addr × Obj) : Prop where
  z : Zc (.ref C) (some d) p.2
  fs : ∃ vs, p.2.data = .fields vs
/-- a def's promise where p is such an error: sp is told its place, its class, its dict -/
structure FnE (P : Program) (w : World) (K : PySem.W.Frag) (mg : Str → Option Value) (base : Heap) (k : Nat) (f : Addr) (fd : FuncData) (ps : List Str) (sp : Addr → Addr → Addr → Sp) : Prop where
  len : ∀ a C d vs H Q E, sp a C d vs H Q E → vs.length = ps.length
  run : ∀ (A : Around) (outer : List Env) (s : Shared) (H : Hp) (args : Args) (us : List Value) (vs : List V) (Q : VK) (E : XK) (p : Addr × Obj) (C d : Addr), RoomH k A → ErrP C d p → PinOk outer H s p →
    Env0 P w K mg base A outer s H → BindsTo s fd args (ps.zip us) → Vals vs us → sp p.1 C d vs H Q E → codeAny (model P w) A (.call (.ref f) args) (CR CX0 outer P w H s Q E) s
section
variable {P : Program} {w : World} {K : PySem.W.Frag} {mg : Str → Option Value} {base : Heap} {k : Nat} {f : Addr} {fd : FuncData} {N ps : List Str} {sp : Addr → Addr → Addr → Sp} {x qual : Str} {st : Stmt}
theorem _root_.L2.Fun.okE (F : Fun K x qual st f fd) (S : FnScope N ps (defScope st)) (len : ∀ a C d vs H Q E, sp a C d vs H Q E → vs.length = ps.length)
    (body : ∀ (cdv : Value) (A : Around) (outer : List Env) (s : Shared) (H : Hp) (vs : List V) (Q : VK) (E : XK) (p : Addr × Obj) (C d : Addr), ErrP C d p → RoomH k (A.deeper (envOfC qual (defScope st) s.heap.objs.size f cdv)) → sp p.1 C d vs H Q E →
      ∃ t, PSs (cxH CX0 P w K mg base N qual (defScope st) f cdv A outer s H E p) (defBody st) t ∧ t { nx := fun _ H' => Q .non H', rt := Q } (L2.start N vs) H) : FnE P w K mg base (k + 1) f fd ps sp := by
  obtain ⟨oc, od, kV, doc, pm, an, cdv, ct, osl, rfl, lk, hcd⟩ := F.ex
  constructor
  · exact len
  · intro A outer s H args us vs Q E p C d room ep pin e0 bi rel hsp
    have nl := len _ _ _ _ _ _ _ hsp
    have up : ∀ b o, base.get? b = some o → s.heap.get? b = some o := fun b o e => (e0.bs b o e).1
    have kin : K.In s.heap := e0.mod.kin.keeps up
    have kinds : ∀ y ∈ ps.zip us, (defScope st).names.lookup y.1 = some .local ∨ ((defScope st).names.lookup y.1 = some .cell ∧ ((cellsFrom (s.heap.objs.size + 1) (defScope st).names []).lookup y.1).isSome = true) := by
      rintro ⟨n, v⟩ hy
      rcases S.par n (List.of_mem_zip hy).1 with q | q
      · exact Or.inl q
      · exact Or.inr ⟨q, PySem.W.cellsFrom_some _ _ _ (Or.inl q)⟩
    refine codeAny_call_function room.depth (kin _ _ lk) rfl S.co S.gen rfl (PySem.W.codeRec_of kin hcd) (bi _ _ _ _ (wpAny_newFunctionEnv_cells S.kind kinds fun env eqv s1 ic => ?_))
    subst eqv
    obtain ⟨t, ht, hq⟩ := body cdv A outer s H vs Q E p C d ep (room.deeper _) hsp
    have J : Inv (cxH CX0 P w K mg base N qual (defScope st) f cdv A outer s H E p) [] (L2.start N vs) H s1 := inv_startH S pin e0 nl rel ic
    refine ⟨(e0.mod.nolimit.keeps up).keeps ic.toInCall.keep, codeAny_func (wpAny_mono (ht.run [] s1 (L2.start N vs) H _ J hq) (fun fl s' z => ?_) fun e s' z => z)⟩
    have done : ∀ {σ' : St} {H' : Hp} {v : V} {u : Value}, Inv (cxH CX0 P w K mg base N qual (defScope st) f cdv A outer s H E p) [] σ' H' s' → RelV v u → Q v H' → CE outer P w H s Q u s' := by
      intro σ' H' v u I r q
      exact ⟨v, H', I.os, I.bare, I.base, I.hok, r, q⟩
    match fl, z with
    | .ret u, ⟨v, σ', H', I, r, q⟩ => exact done I r q
    | .next, ⟨σ', H', I, q⟩ => exact done (v := V.non) (u := Value.none) I rfl q
    | .brk, ⟨_, _, _, q⟩ => exact False.elim q
    | .cont, ⟨_, _, _, q⟩ => exact False.elim q
end
/-- f(..) where p is at hand -/
def tCallE (sp : Addr → Addr → Addr → Sp) (a C d : Addr) (t : TA) : TE := fun σ H Q => t σ H fun vs H1 => sp a C d vs H1 Q E0
/-- isinstance(e, c), e the error at a -/
def rIsP (K : PySem.W.Frag) (a C d : Addr) : List V → Hp → VK → Prop := fun xs H Q => ExcC K C ∧ ∃ (c : V) (cv : Value) (b : Bool) (fs : List (Str × V)), xs = [.ref a, c] ∧ (∀ u, RelV c u → u = cv) ∧ PySem.W.kitOne K (.ref C) cv = some b ∧ H d = some (.xd fs) ∧ Q (.bl b) H
section
variable {X : Cx} {k : Nat} {f C d : Addr} {fd : FuncData} {ps : List Str} {sp : Addr → Addr → Addr → Sp} {x : Str} {q pos : Pos} {e : Expr} {es : List Expr} {t : TA} {p : Addr × Obj}
theorem pe_callE (F : FnE X.prog X.w X.K X.mg X.base k f fd ps sp) (hr : RoomH k X.A) (hp : p ∈ X.pn) (ep : ErrP C d p) (hg : Gl X x) (hm : X.mg x = some (.ref f)) (hk : PySem.W.keepIn X.K (.ref f) = true) (hb : Binds X.K fd ps []) (ha : PA X (e :: es) t)
    (hdb : (x == ("__debug__" : Str)) = false := by decide) (he : starEach (e :: es) X.env = (false, eval e X.env) :: starEach es X.env := by rfl) (hpl : (backTo pos (starEach es X.env)).any (·.1) = false := by rfl) :
    PE X (.Call (.Name x q) (e :: es) [] pos) (tCallE sp p.1 C d t) := by
  refine ⟨fun pins s σ H Q I h => wpAny_Call_Name_kw (ld_glob I hg hm ?_ hdb)⟩
  refine PySem.W.callWith_K (h₀ := X.base) I.ok.mod.kin hk (thn (ha.run pos pins s σ H _ I h) fun us s1 ⟨vs, H1, I1, r, z⟩ => ⟨I1.kIn, ?_⟩) he hpl
  have nl : us.length = ps.length := by
    rw [← r.length]
    exact F.len _ _ _ _ _ _ _ z
  have bb := hb s1 us I1.kIn (by rw [List.append_nil]; exact nl)
  rw [List.append_nil] at bb
  obtain ⟨p1, p2, p3, p4, p5⟩ := I1.pin p (List.mem_append_left _ hp)
  have pin : PinOk X.stack H1 s1 p := ⟨p1, p2, fun hm => (List.mem_cons.mp (I1.stkSub p.1 hm)).elim p3 p4, p5⟩
  refine wpAny_call (codeAny_mono (F.run X.A X.stack s1 H1 ⟨us, []⟩ us vs Q E0 p C d hr ep pin I1.env0 bb r z) fun r2 s2 y => ?_)
  match r2, y with
  | .ok (.ret u), y => exact I1.after y
  | .ok .next, y => exact False.elim y
  | .ok .brk, y => exact False.elim y
  | .ok .cont, y => exact False.elim y
  | .error er, y => exact False.elim y
theorem call_isP (hp : p ∈ X.pn) (ep : ErrP C d p) : CallR X (.builtin "isinstance") (rIsP X.K p.1 C d) := by
  intro pins s σ H xs us Q I r h
  obtain ⟨ec, c, cv, b, fs, rfl, hcv, e, hd, q⟩ := h
  match us, r with
  | [u0, u1], .cons r0 (.cons r1 .nil) =>
    obtain rfl : u0 = Value.ref p.1 := r0
    obtain rfl := hcv _ r1
    obtain ⟨hget, _⟩ := I.pin p (List.mem_append_left _ hp)
    obtain ⟨vs, hv⟩ := ep.fs
    have hx : ObjOk X.prog X.w H s.heap d (.xd fs) := I.hok d _ hd
    obtain ⟨mA, ns, _⟩ := hx
    obtain ⟨od, hod, _⟩ := lookIn_ns ns
    have J : PySem.W.InstAt s.heap p.1 p.2 C (some od) := by
      obtain ⟨z1, z2⟩ := ep.z
      exact ⟨hget, z1, by unfold PySem.W.notCls; rw [hv] <;> rfl, by rw [z2]; exact hod⟩
    exact PySem.W.kia_one (MXc.kit_err ec) I.kIn J e (fun z => nomatch z) fun tk => ⟨.bl b, H, I.kept (t' := tk) fun _ _ z => z, rfl, q⟩
end
end MXe
/-! xs.count(True), xs a list of bools. -/
namespace MXf
open PySem PySem.Spec PyProof.Rows L2
theorem bools_is : ∀ {bs : List Bool} {us : List Value}, Vals (bs.map V.bl) us → us = bs.map Value.bool
  | [], _, .nil => rfl
  | b :: r, _, .cons h t => by
    have e := bools_is t
    rw [e, show _ = Value.bool b from h]
    rfl
theorem count_is (k : Bool) : ∀ bs : List Bool, (bs.map Value.bool).countP (isBoolOf k) = bs.count k
  | [] => rfl
  | b :: r => by
    rw [List.map_cons, List.countP_cons, List.count_cons, count_is k r]
    rfl
/-- xs.count(k) -/
def rCntB (K : PySem.W.Frag) : V → List V → Hp → VK → Prop := fun x xs H Q => ∃ (p : Addr) (bs : List Bool) (k : Bool), x = .ref p ∧ xs = [.bl k] ∧ SqL K H p (bs.map V.bl) ∧ Q (.int (bs.count k : Nat)) H
theorem mt_countB {X : Cx} : MtR X "list.count" (rCntB X.K) := by
  intro pins s σ H x xs v us Q I rx rxs h
  obtain ⟨p, bs, k, rfl, rfl, hs, q⟩ := h
  obtain rfl : v = Value.ref p := rx
  obtain ⟨u, rfl, ru⟩ := rxs.one
  obtain rfl : u = Value.bool k := ru
  obtain ⟨its, rv, ⟨⟨cls, dd, data, sl⟩, n, ho, hc, hdn, hd⟩, hlen⟩ := I.list hs
  simp only at hc hd
  subst hc hd
  have e := bools_is rv
  subst e
  refine call_meets PySem.F.slot_list_count ⟨_, ho, rfl⟩ PySem.F.entry_list_count (PySem.F.args_list_count_2 _ _)
    (SeqAt.list_countAt p (bs.map Value.bool).toArray n dd sl (.bool k) (isBoolOf k)) ⟨ho, fun y hy => ?_, ?_⟩
  · have hy' : y ∈ bs.map Value.bool := by simpa using hy
    obtain ⟨b, _, rfl⟩ := List.mem_map.mp hy'
    exact SeqAt.EqAt.bool_bool b k
  · refine ⟨.int (bs.count k : Nat), H, I.tok _, ⟨s.toks, ?_⟩, q⟩
    show Value.int (((bs.map Value.bool).toArray.toList.countP (isBoolOf k) : Nat) : Int) s.toks = Value.int ((bs.count k : Nat) : Int) s.toks
    rw [← count_is k bs]
end MXf
/-! C(e, ..) of an own class whose __init__ may raise: the wish may speak of the caller's slots. What is never reached. -/
namespace MXg
open PySem PySem.Spec PyProof.Rows L2
abbrev St := L2.St
def tMakeS (C : Addr) (sp : Sp) (E : St → XK) (t : TA) : TE := fun σ H Q => t σ H fun vs H1 => ∀ x dx, H1 x = none → H1 dx = none → dx ≠ x →
  sp (.ref x :: vs) (upd (upd H1 dx (.own x)) x (.ins C dx [])) (fun v H2 => v = .non ∧ Q (.ref x) H2) (E σ)
section
variable {X : Cx} {CX : CXT} {k : Nat} {f C : Addr} {fd : FuncData} {ps : List Str} {sp : Sp} {E : St → XK} {x : Str} {p pos : Pos} {e : Expr} {es : List Expr} {t : TA}
theorem pe_makeS (M : Mk X.K C f) (F : FnOk X.prog X.w X.K X.mg X.base CX k f fd ps sp) (hr : Room (k + 1) X.A) (hg : Gl X x) (hm : X.mg x = some (.ref C)) (hb : Binds X.K fd ps []) (hx : ∀ σ, PassesAt CX X σ (E σ)) (ha : PA X (e :: es) t)
    (hdb : (x == ("__debug__" : Str)) = false := by decide) (he : starEach (e :: es) X.env = (false, eval e X.env) :: starEach es X.env := by rfl) (hpl : (backTo pos (starEach es X.env)).any (·.1) = false := by rfl) :
    PE X (.Call (.Name x p) (e :: es) [] pos) (tMakeS C sp E t) := by
  refine ⟨fun pins s σ H Q I h => wpAny_Call_Name_kw (ld_glob I hg hm ?_ hdb)⟩
  refine PySem.W.callWith_K (h₀ := X.base) I.ok.mod.kin M.kp (thn (ha.run pos pins s σ H _ I h) fun us s1 ⟨vs, H1, I1, r, q⟩ => ⟨I1.kIn, ?_⟩) he hpl
  have want := q (s1.heap.objs.size + 1) s1.heap.objs.size (I1.hok.fresh (Nat.le_succ _)) (I1.hok.fresh (Nat.le_refl _)) (Nat.ne_of_lt (Nat.lt_succ_self _))
  have J := Inv.made (C := C) I1
  have rr : Vals (V.ref (s1.heap.objs.size + 1) :: vs) (Value.ref (s1.heap.objs.size + 1) :: us) := .cons rfl r
  have nl : (Value.ref (s1.heap.objs.size + 1) :: us).length = ps.length := by
    rw [← rr.length]
    exact F.len _ _ _ _ want
  have bb := hb ⟨(s1.heap.push PySem.W.emptyDict).push (PySem.W.instObj C s1.heap.objs.size), s1.gens, s1.drawn, s1.toks, s1.os⟩ (Value.ref (s1.heap.objs.size + 1) :: us) J.kIn (by rw [List.append_nil]; exact nl)
  rw [List.append_nil] at bb
  refine wpAny_call (make_map (f := f) I1.kIn M.makes M.init (beq_iff_eq.mp M.fn) (codeAny_mono
    (F.run _ X.stack _ _ ⟨Value.ref (s1.heap.objs.size + 1) :: us, []⟩ _ _ _ (E σ) (hr.make C us []) (J.env0.make C us []) bb rr want) fun r2 s2 z => ?_))
  match r2, z with
  | .error er, z => exact hx σ pins _ _ er s2 J z
  | .ok (.ret u), z =>
    obtain ⟨v, H', I3, rv, ev, q3⟩ := J.after z
    subst ev
    exact ⟨rv, ⟨V.ref (s1.heap.objs.size + 1), H', I3, rfl, q3⟩⟩
  | .ok .next, z => exact False.elim z
  | .ok .brk, z => exact False.elim z
  | .ok .cont, z => exact False.elim z
/-- never reached -/
theorem pt_no {e : Expr} : PT X e (fun _ _ _ => False) := ⟨fun _ _ _ _ _ _ h => h.elim⟩
theorem pe_no {e : Expr} : PE X e (fun _ _ _ => False) := ⟨fun _ _ _ _ _ _ h => h.elim⟩
theorem pss_no {st : List Stmt} : PSs X st (fun _ _ _ => False) := ⟨fun _ _ _ _ _ _ h => h.elim⟩
end
end MXg
/-! What many laws' helpers want: powers of great ints; the creel (three ints in a list at c) and what leaves all but it. -/
namespace LK
open PySem PySem.Spec PyProof.Rows L2
abbrev St := L2.St
/-- i ** j: j not below 0, the outcome of at most 2 ^ 27 bits -/
def CPowB (i j : Int) : Prop := 0 ≤ j ∧ (Builtin.Int.intBits i : Int) * j ≤ 2 ^ 27
theorem op_powB {X : Cx} : OpR X (binaryOp .Pow) (rI CPowB fun i j => .int (i ^ j.toNat)) := opI fun _ _ _ _ _ _ _ hc q => pow_int hc.1 hc.2 q
theorem bits_small {i : Int} {n : Nat} (h : i.natAbs < 2 ^ n) (h0 : 0 < n) : Builtin.Int.intBits i ≤ n := by
  unfold Builtin.Int.intBits
  split
  · omega
  · have := PySem.Flt.log2_lt_of h0 h
    omega
/-- all that was tracked is as it was, but perhaps at c -/
def Bt (c : Addr) (H H' : Hp) : Prop := ∀ b o, b ≠ c → H b = some o → H' b = some o
theorem Bt.refl (c : Addr) (H : Hp) : Bt c H H := fun _ _ _ h => h
theorem Bt.trans {c : Addr} {H H1 H2 : Hp} (a : Bt c H H1) (b : Bt c H1 H2) : Bt c H H2 := fun x o n h => b x o n (a x o n h)
theorem Bt.of {c : Addr} {H H' : Hp} (s : Same H H') : Bt c H H' := fun b o _ h => s b o h
theorem Bt.put {c : Addr} {H : Hp} {o : HO} : Bt c H (upd H c o) := fun b u n h => by
  rw [upd_ne n]
  exact h
/-- the creel at c: three ints, none below 0, the second below 10 ^ 40, the third at most B -/
def CR (H : Hp) (c : Addr) (B : Nat) : Prop := ∃ a b n : Int, H c = some (.lst [.int a, .int b, .int n]) ∧ 0 ≤ a ∧ 0 ≤ b ∧ b < 10 ^ 40 ∧ 0 ≤ n ∧ n ≤ B
theorem CR.mono {H : Hp} {c : Addr} {B B' : Nat} (h : CR H c B) (l : B ≤ B') : CR H c B' := by
  obtain ⟨a, b, n, e, h1, h2, h3, h4, h5⟩ := h
  exact ⟨a, b, n, e, h1, h2, h3, h4, by omega⟩
theorem CR.same {H H' : Hp} {c : Addr} {B : Nat} (h : CR H c B) (s : Same H H') : CR H' c B := by
  obtain ⟨a, b, n, e, r⟩ := h
  exact ⟨a, b, n, s _ _ e, r⟩
theorem CR.ne {H : Hp} {c p : Addr} {B : Nat} {o : HO} (h : CR H c B) (e : H p = some o) (d : ∀ xs, o ≠ .lst xs) : p ≠ c := by
  obtain ⟨a, b, n, ec, _⟩ := h
  exact ne_of e ec (d _)
theorem CR.fresh {H : Hp} {c p : Addr} {B : Nat} (h : CR H c B) (n : H p = none) : c ≠ p := by
  obtain ⟨a, b, k, ec, _⟩ := h
  exact ne_of_none ec n
theorem CR.upd {H : Hp} {c p : Addr} {B : Nat} {o : HO} (h : CR H c B) (n : p ≠ c) : CR (upd H p o) c B := by
  obtain ⟨a, b, k, e, r⟩ := h
  exact ⟨a, b, k, by rw [upd_ne (Ne.symm n)]; exact e, r⟩
/-- a draw: the creel goes on, the digit lies below span -/
def spPly : Sp := fun vs H Q _ => ∃ (c : Addr) (span : Int) (B : Nat), vs = [.ref c, .int span] ∧ 0 < span ∧ span < 2 ^ 60 ∧ CR H c B ∧ B < 10 ^ 12 ∧
  ∀ (d : Int) (H' : Hp), 0 ≤ d → d < span → CR H' c (B + 1) → Bt c H H' → (∀ p, H' p = none ↔ H p = none) → Q (.int d) H'
/-- the creel of a script's cell -/
def spCreel (K : PySem.W.Frag) : Sp := fun vs H Q _ => ∃ (a : Addr) (ns : List Int) (i : Nat), vs = [.ref a, .int i] ∧ SqL K H a (ns.map V.int) ∧ i ≤ 1000 ∧ ∀ (c : Addr) (H' : Hp), H c = none → CR H' c 0 → Same H H' → Q (.ref c) H'
theorem ifT {k : Bool} {A B : Prop} (e : k = true) (h : A) : if k = true then A else B := by
  rw [if_pos e]
  exact h
theorem ifF {k : Bool} {A B : Prop} (e : k = false) (h : B) : if k = true then A else B := by
  rw [e]
  exact iteF h
theorem same_new {H : Hp} {p : Addr} {o : HO} (h : H p = none) : Same H (upd H p o) := fun b u e => by
  rw [upd_ne (ne_of_none e h)]
  exact e
theorem upd_none {H : Hp} {c p : Addr} {o o' : HO} (h : H c = some o) : upd H c o' p = none ↔ H p = none := by
  by_cases e : p = c
  · rw [e, upd_same, h]
    constructor <;> intro z <;> cases z
  · rw [upd_ne e]
/-- the built-ins that the laws and the program name -/
def blts : List Str := ["isinstance", "len", "int", "range", "ValueError", "bool", "list", "set", "enumerate", "tuple", "str", "max", "min", "abs", "sorted", "zip", "all", "sum", "any", "dict", "reversed"]
abbrev Bl (mg : Str → Option Value) : Prop := ∀ n, n ∈ blts → mg n = none
end LK
namespace X6
open PySem PySem.Spec PyProof.Rows L2 LK
abbrev St := L2.St
def top (i : Nat) : Stmt := PySem.Challenge.pw_runsdown_k46_cloths_as_text.main.body.getD i (.Pass ⟨0, 0, 0, 0⟩)
abbrev sPly : Stmt := top 28
abbrev sCreel : Stmt := top 27
section
variable {P : Program} {w : World} {K : PySem.W.Frag} {mg : Str → Option Value} {base : Heap}
theorem scPly : FnScope ["creel", "span", "digit", "twine"] ["creel", "span"] (defScope sPly) := ⟨rfl, rfl, rfl, by decide +kernel, rfl, by decide +kernel, by decide +kernel⟩
theorem ok_ply {f : Addr} {fd : FuncData} (F : Fun K "_law_ply" "_law_ply" sPly f fd) (B : Bl mg) : FnOk P w K mg base CX0 1 f fd ["creel", "span"] spPly := by
  refine F.ok scPly (fun vs H Q E h => ?_) (fun cdv A outer s H vs Q E hr h => ?_)
  · obtain ⟨c, span, _, rfl, _⟩ := h
    rfl
  · obtain ⟨c, span, bb, rfl, p0, p1, ⟨a, b, n, hc, a0, b0, b1, n0, n1⟩, bB, k⟩ := h
    refine ⟨_, pss_cons (ps_if (pt_cmpR op_gt (pe_ix ix_list (pv 0) pe_int (fun _ _ => rfl)) pe_int (nomark _)) (pss_cons (ps_set (i := 2) scPly.nd rfl (Or.inl rfl) (pe_op op_mod (pe_callTy call_int1 (by rfl) (B "int" (by decide)) (by decide +kernel) (pa_cons (pe_ix ix_list (pv 0) pe_int (fun _ _ => rfl)) pa_nil)) (pv 1)))
      (pss_cons (ps_asg (pe_op op_fdivW (pe_ix ix_list (pv 0) pe_int (fun _ _ => rfl)) (pv 1)) (pg_sub (pv 0) pe_int set_list))
      (pss_one (ps_ret (pv 2))))) pss_nil)
      (pss_cons (ps_asg (pe_op op_add (pe_ix ix_list (pv 0) pe_int (fun _ _ => rfl)) pe_int) (pg_sub (pv 0) pe_int set_list))
      (pss_cons (ps_set (i := 3) scPly.nd rfl (Or.inl rfl) (pe_op op_mod (pe_op op_powB (pe_callTy call_int1 (by rfl) (B "int" (by decide)) (by decide +kernel) (pa_cons (pe_op op_add (pe_ix ix_list (pv 0) pe_int (fun _ _ => rfl)) (pe_op op_mul pe_int (pe_ix ix_list (pv 0) pe_int (fun _ _ => rfl)))) pa_nil)) pe_int) (pe_op op_add (pe_op op_pow pe_int pe_int) pe_int)))
      (pss_cons (ps_set (i := 3) scPly.nd rfl (Or.inl rfl) (pe_op op_mod (pe_op op_powB (pe_callTy call_int1 (by rfl) (B "int" (by decide)) (by decide +kernel) (pa_cons (pe_op op_add (pv 3) (pe_op op_mul pe_int (pe_ix ix_list (pv 0) pe_int (fun _ _ => rfl)))) pa_nil)) pe_int) (pe_op op_add (pe_op op_pow pe_int pe_int) pe_int)))
      (pss_one (ps_ret (pe_op op_mod (pe_op op_fdivW (pv 3) pe_int) (pv 1))))))), ?_⟩
    refine ⟨_, rfl, c, _, 0, _, rfl, rfl, SqL.of hc, atI_nat (j := 0) rfl, _, _, rfl, rfl, _, rfl, ?_⟩
    by_cases big : a > 0
    · refine LK.ifT (decide_eq_true big) ?_
      refine ⟨_, rfl, c, _, 0, _, rfl, rfl, SqL.of hc, atI_nat (j := 0) rfl, .inl ⟨_, rfl, _, rfl, _, _, rfl, rfl, p0, ?_⟩⟩
      refine ⟨_, rfl, c, _, 0, _, rfl, rfl, SqL.of hc, atI_nat (j := 0) rfl, _, rfl, _, _, rfl, rfl, wide_div (b := 60) p0 (by omega) (by decide) (by decide), ?_⟩
      refine ⟨_, rfl, c, _, _, 0, rfl, rfl, hc, rfl, ?_⟩
      exact ⟨_, rfl, k _ _ (Int.emod_nonneg _ (by omega)) (Int.emod_lt_of_pos _ p0) ⟨_, _, _, upd_same, Int.ediv_nonneg a0 (by omega), b0, b1, n0, by omega⟩ Bt.put (fun p => upd_none hc)⟩
    · refine LK.ifF (decide_eq_false big) ?_
      refine ⟨_, rfl, c, _, 2, _, rfl, rfl, SqL.of hc, atI_nat (j := 2) rfl, _, _, rfl, rfl, ?_⟩
      refine ⟨_, rfl, c, _, _, 2, rfl, rfl, hc, rfl, ?_⟩
      have hc2 : upd H c (.lst [.int a, .int b, .int (n + 1)]) c = some (.lst [.int a, .int b, .int (n + 1)]) := upd_same
      refine ⟨_, rfl, c, _, 1, _, rfl, rfl, SqL.of hc2, atI_nat (j := 1) rfl, _, rfl, c, _, 2, _, rfl, rfl, SqL.of hc2, atI_nat (j := 2) rfl, _, _, rfl, rfl, .inl ⟨by decide, by decide⟩, _, _, rfl, rfl, .inl ⟨_, rfl, ?_⟩⟩
      have m0 : 0 ≤ b + 50021 * (n + 1) := by omega
      have m1 : b + 50021 * (n + 1) < 2 ^ 140 := by
        have : (10 : Int) ^ 40 + 50021 * (10 ^ 12 + 1) < 2 ^ 140 := by decide
        omega
      have w1 := bits_small (i := b + 50021 * (n + 1)) (n := 140) (by omega) (by decide)
      refine ⟨_, _, rfl, rfl, ⟨by decide, by omega⟩, _, _, rfl, rfl, ⟨by decide, by decide, by decide⟩, _, _, rfl, rfl, _, _, rfl, rfl, (show (0 : Int) < 10 ^ 38 + 67 by decide), ?_⟩
      generalize hx : (b + 50021 * (n + 1)) ^ (2 : Int).toNat % ((10 : Int) ^ (38 : Int).toNat + 67) = x
      have x0 : 0 ≤ x := by rw [← hx]; exact Int.emod_nonneg _ (by decide)
      have x1 : x < 10 ^ 38 + 67 := by rw [← hx]; exact Int.emod_lt_of_pos _ (by decide)
      refine ⟨_, rfl, _, rfl, c, _, 2, _, rfl, rfl, SqL.of hc2, atI_nat (j := 2) rfl, _, _, rfl, rfl, .inl ⟨by decide, by decide⟩, _, _, rfl, rfl, .inl ⟨_, rfl, ?_⟩⟩
      have q0 : 0 ≤ x + 700001 * (n + 1) := by omega
      have q1 : x + 700001 * (n + 1) < 2 ^ 140 := by
        have : (10 : Int) ^ 38 + 67 + 700001 * (10 ^ 12 + 1) < 2 ^ 140 := by decide
        omega
      have w2 := bits_small (i := x + 700001 * (n + 1)) (n := 140) (by omega) (by decide)
      refine ⟨_, _, rfl, rfl, ⟨by decide, by rw [hx]; omega⟩, _, _, rfl, rfl, ⟨by decide, by decide, by decide⟩, _, _, rfl, rfl, _, _, rfl, rfl, (show (0 : Int) < 10 ^ 39 + 37 by decide), ?_⟩
      generalize hy : (x + 700001 * (n + 1)) ^ (3 : Int).toNat % ((10 : Int) ^ (39 : Int).toNat + 37) = y
      refine ⟨_, rfl, _, _, rfl, rfl, wide_div (b := 60) (by decide) (by decide) (by decide) (by decide), _, rfl, _, _, rfl, rfl, p0, ?_⟩
      exact k _ _ (Int.emod_nonneg _ (by omega)) (Int.emod_lt_of_pos _ p0) ⟨_, _, _, hc2, a0, b0, b1, by omega, by omega⟩ Bt.put (fun p => upd_none hc)
theorem scCreel : FnScope ["script", "at", "grain"] ["script", "at"] (defScope sCreel) := ⟨rfl, rfl, rfl, by decide +kernel, rfl, by decide +kernel, by decide +kernel⟩
theorem ok_creel {f : Addr} {fd : FuncData} (F : Fun K "_law_creel" "_law_creel" sCreel f fd) (B : Bl mg) : FnOk P w K mg base CX0 1 f fd ["script", "at"] (spCreel K) := by
  refine F.ok scCreel (fun vs H Q E h => ?_) (fun cdv A outer s H vs Q E hr h => ?_)
  · obtain ⟨a, ns, i, rfl, _⟩ := h
    rfl
  · obtain ⟨a, ns, i, rfl, hS, hi, k⟩ := h
    refine ⟨_, pss_cons (ps_set (i := 2) scCreel.nd rfl (Or.inl rfl) (pe_ifExp (pt_cmpR op_lt (pv 1) (pe_callB call_len_seq (by rfl) (B "len" (by decide)) (by decide +kernel) (pa_cons (pv 0) pa_nil)) (nomark _)) (pe_ix ix_list (pv 0) (pv 1) (fun _ _ => rfl)) pe_int))
      (pss_one (ps_ret (pe_lst (pa_cons (pe_callB (call_max2 rfl) (by rfl) (B "max" (by decide)) (by decide +kernel) (pa_cons pe_int (pa_cons (pe_op op_sub (pe_callB call_abs (by rfl) (B "abs" (by decide)) (by decide +kernel) (pa_cons (pv 2) pa_nil)) (pe_op op_pow pe_int pe_int)) pa_nil))) (pa_cons (pe_op op_add (pe_op op_add (pe_op op_mul (pe_op op_mod (pe_callTy call_int1 (by rfl) (B "int" (by decide)) (by decide +kernel) (pa_cons (pv 2) pa_nil)) (pe_op op_add (pe_op op_pow pe_int pe_int) pe_int)) pe_int) (pe_op op_mul pe_int (pv 1))) pe_int) (pa_cons pe_int pa_nil)))))), ?_⟩
    refine ⟨_, rfl, _, rfl, a, _, rfl, .inl hS, _, _, rfl, rfl, _, rfl, ?_⟩
    rw [List.length_map]
    have fin : ∀ z : Int, 0 ≤ (if (if z < 0 then -z else z) - 10 ^ (18 : Int).toNat > 0 then (if z < 0 then -z else z) - 10 ^ (18 : Int).toNat else 0) := fun z => by
      split <;> omega
    have m0 : ∀ z : Int, 0 ≤ z % ((10 : Int) ^ (37 : Int).toNat + 3) := fun z => Int.emod_nonneg _ (by decide)
    have m1 : ∀ z : Int, z % ((10 : Int) ^ (37 : Int).toNat + 3) < (10 : Int) ^ (37 : Int).toNat + 3 := fun z => Int.emod_lt_of_pos _ (by decide)
    have m2 : ((10 : Int) ^ (37 : Int).toNat + 3) * 71 + 60000 < 10 ^ 40 := by decide
    by_cases lt : (i : Int) < ns.length
    · refine LK.ifT (decide_eq_true lt) ?_
      obtain ⟨z, hz⟩ : ∃ z, ns[i]? = some z := ⟨ns[i]'(by omega), List.getElem?_eq_getElem (by omega)⟩
      refine ⟨_, rfl, _, rfl, a, _, (i : Int), _, rfl, rfl, hS, atI_nat (v := V.int z) (by rw [List.getElem?_map, hz]; rfl), ?_⟩
      have f0 := fin z
      have f1 := m0 z
      have f2 := m1 z
      refine ⟨_, rfl, _, rfl, _, _, rfl, rfl, ⟨by decide, by decide, by decide⟩, _, _, rfl, rfl, _, _, rfl, ?_⟩
      refine ⟨_, rfl, .inl ⟨_, rfl, _, _, rfl, rfl, ⟨by decide, by decide, by decide⟩, _, _, rfl, rfl, _, _, rfl, rfl, (show (0 : Int) < 10 ^ 37 + 3 by decide), _, _, rfl, rfl, .inr ⟨by decide, by decide⟩, _, rfl, _, _, rfl, rfl, .inl ⟨by decide, by decide⟩, _, _, rfl, rfl, _, _, rfl, rfl, ?_⟩⟩
      exact ⟨by show 3 ≤ sizeLine; decide, fun p np => k _ _ np ⟨_, _, _, upd_same, f0, by omega, by omega, by omega, by omega⟩ (same_new np)⟩
    · refine LK.ifF (decide_eq_false lt) ?_
      have f0 := fin 0
      have f1 := m0 0
      have f2 := m1 0
      refine ⟨_, rfl, _, rfl, _, _, rfl, rfl, ⟨by decide, by decide, by decide⟩, _, _, rfl, rfl, _, _, rfl, ?_⟩
      refine ⟨_, rfl, .inl ⟨_, rfl, _, _, rfl, rfl, ⟨by decide, by decide, by decide⟩, _, _, rfl, rfl, _, _, rfl, rfl, (show (0 : Int) < 10 ^ 37 + 3 by decide), _, _, rfl, rfl, .inr ⟨by decide, by decide⟩, _, rfl, _, _, rfl, rfl, .inl ⟨by decide, by decide⟩, _, _, rfl, rfl, _, _, rfl, rfl, ?_⟩⟩
      exact ⟨by show 3 ≤ sizeLine; decide, fun p np => k _ _ np ⟨_, _, _, upd_same, f0, by omega, by omega, by omega, by omega⟩ (same_new np)⟩
end
end X6
/-! What is read as data: its class, isinstance, what stays; and the compared helper's promise. -/
namespace LK
open PySem PySem.Spec PyProof.Rows L2
/-- the name of a datum's class -/
def tyN : PyData → String
  | .none => "NoneType"
  | .bool _ => "bool"
  | .int _ => "int"
  | .str _ => "str"
  | .list _ => "list"
  | .tuple _ => "tuple"
  | .dict _ => "dict"
theorem seqL_ty {K : PySem.W.Frag} {H : Hp} {a : Addr} {xs : List V} (h : SqL K H a xs) : TyX K H (.ref a) (.type "list") := by
  rcases h with (h | ⟨o, h⟩) | ⟨o, its, n, h, c, _⟩
  · exact .base (.lst h)
  · exact .base (.frz h)
  · exact .kList h c
theorem seqT_ty {K : PySem.W.Frag} {H : Hp} {a : Addr} {xs : List V} (h : SqT K H a xs) : TyX K H (.ref a) (.type "tuple") := by
  rcases h with (h | ⟨o, h⟩) | ⟨o, its, n, h, c, _⟩
  · exact .base (.tup h)
  · exact .fTuple h
  · exact .kTuple h c
theorem dp_ty {K : PySem.W.Frag} {H : Hp} {v : V} {d : PyData} (h : Dp K H v d) : TyX K H v (.type (tyN d)) := by
  cases h with
  | non => exact .base .non
  | bl b => exact .base (.bl b)
  | int i => exact .base (.int i)
  | str x => exact .base (.str x)
  | lst s _ => exact seqL_ty s
  | tup s _ => exact seqT_ty s
def isK (d : PyData) (T : String) : Bool := (kitB (tyN d) T).getD false
theorem kit_d {K : PySem.W.Frag} {H : Hp} {v : V} {d : PyData} (h : Dp K H v d) (T : String) (hT : T ∈ (["bool", "int", "str", "list", "tuple"] : List String)) : PySem.W.kitOne K (.type (tyN d)) (.type T) = some (isK d T) := by
  refine kit_ty ?_
  unfold isK
  simp only [List.mem_cons, List.not_mem_nil, or_false] at hT
  cases h <;> rcases hT with rfl | rfl | rfl | rfl | rfl <;> simp only [tyN] <;> decide +kernel
theorem kit_lt {K : PySem.W.Frag} {H : Hp} {v : V} {d : PyData} (h : Dp K H v d) : PySem.W.kitAny K (.type (tyN d)) [.type "list", .type "tuple"] = some (isK d "list" || isK d "tuple") := by
  refine kitAny_cons (kit_d h "list" (by decide)) (fun e => ?_) (fun e => by rw [e]; rfl)
  rw [e, Bool.false_or]
  refine kitAny_cons (kit_d h "tuple" (by decide)) (fun e => ?_) (fun e => e)
  rw [e]
  rfl
theorem same_tup {K : PySem.W.Frag} {H H' : Hp} {a : Addr} {xs : List V} (e : Same H H') (h : SqT K H a xs) : SqT K H' a xs := by
  rcases h with (h | ⟨o, h⟩) | h
  · exact .inl (.inl (e _ _ h))
  · exact .inl (.inr ⟨o, e _ _ h⟩)
  · exact .inr h
mutual
theorem dp_same {K : PySem.W.Frag} {H H' : Hp} (e : Same H H') : ∀ {v : V} {d : PyData}, Dp K H v d → Dp K H' v d
  | _, _, .non => .non
  | _, _, .bl b => .bl b
  | _, _, .int i => .int i
  | _, _, .str x => .str x
  | _, _, .lst s a => .lst (e.seq s) (dps_same e a)
  | _, _, .tup s a => .tup (same_tup e s) (dps_same e a)
theorem dps_same {K : PySem.W.Frag} {H H' : Hp} (e : Same H H') : ∀ {vs : List V} {ds : List PyData}, DpAll K H vs ds → DpAll K H' vs ds
  | _, _, .nil => .nil
  | _, _, .cons a r => .cons (dp_same e a) (dps_same e r)
end
/-- a list or a tuple, its items -/
theorem dp_items {K : PySem.W.Frag} {H : Hp} {v : V} {d : PyData} (h : Dp K H v d) (e : (isK d "list" || isK d "tuple") = true) : ∃ (a : Addr) (xs : List V) (ds : List PyData), v = .ref a ∧ (SqL K H a xs ∨ SqT K H a xs) ∧ DpAll K H xs ds ∧ (d = .list ds ∨ d = .tuple ds) := by
  cases h with
  | non => exact absurd e (by decide +kernel)
  | bl b => exact absurd (show (isK (.bool true) "list" || isK (.bool true) "tuple") = true from e) (by decide +kernel)
  | int i => exact absurd (show (isK (.int 0) "list" || isK (.int 0) "tuple") = true from e) (by decide +kernel)
  | str x => exact absurd (show (isK (.str "") "list" || isK (.str "") "tuple") = true from e) (by decide +kernel)
  | lst s a => exact ⟨_, _, _, rfl, .inl s, a, .inl rfl⟩
  | tup s a => exact ⟨_, _, _, rfl, .inr s, a, .inr rfl⟩
theorem dps_len {K : PySem.W.Frag} {H : Hp} : ∀ {vs : List V} {ds : List PyData}, DpAll K H vs ds → vs.length = ds.length
  | _, _, .nil => rfl
  | _, _, .cons _ r => by
    rw [List.length_cons, List.length_cons, dps_len r]
theorem dps_app {K : PySem.W.Frag} {H : Hp} : ∀ {vs us : List V} {ds es : List PyData}, DpAll K H vs ds → DpAll K H us es → DpAll K H (vs ++ us) (ds ++ es)
  | _, _, _, _, .nil, b => b
  | _, _, _, _, .cons a r, b => .cons a (dps_app r b)
theorem dps_at {K : PySem.W.Frag} {H : Hp} : ∀ {vs : List V} {ds : List PyData} {i : Nat}, DpAll K H vs ds → i < ds.length → ∃ v d, vs[i]? = some v ∧ ds[i]? = some d ∧ Dp K H v d
  | _, _, _, .nil, h => absurd h (Nat.not_lt_zero _)
  | _, _, 0, .cons a r, _ => ⟨_, _, rfl, rfl, a⟩
  | _, _, i + 1, .cons a r, h => by
    obtain ⟨v, d, h1, h2, h3⟩ := dps_at (i := i) r (Nat.lt_of_succ_lt_succ h)
    exact ⟨v, d, h1, h2, h3⟩
theorem lay_at : ∀ {ds : List PyData} {i : Nat} {d : PyData}, PyData.canLayAll0 ds = true → ds[i]? = some d → d.canLay0 = true ∧ d.depth ≤ PyData.depthAll ds
  | [], i, d, _, h => by simp at h
  | x :: r, 0, d, h, e => by
    obtain rfl : x = d := by simpa using e
    rw [PyData.canLayAll0, Bool.and_eq_true] at h
    refine ⟨h.1, ?_⟩
    simp only [PyData.depthAll]
    omega
  | x :: r, i + 1, d, h, e => by
    rw [PyData.canLayAll0, Bool.and_eq_true] at h
    obtain ⟨h1, h2⟩ := lay_at (i := i) h.2 (by simpa using e)
    refine ⟨h1, ?_⟩
    simp only [PyData.depthAll]
    omega
theorem shaped_of {d : PyData} (h : d.canLay0 = true) (n : d.depth ≤ 64) : SeqAt.shaped d = true := by
  show (d.canLay0 && decide (d.depth ≤ 64)) = true
  rw [h, decide_eq_true n]
  rfl
mutual
/-- no list or tuple of more than a million items -/
def few : PyData → Bool
  | .list xs => decide (xs.length ≤ 1000000) && fewAll xs
  | .tuple xs => decide (xs.length ≤ 1000000) && fewAll xs
  | _ => true
def fewAll : List PyData → Bool
  | [] => true
  | x :: r => few x && fewAll r
end
theorem few_at : ∀ {ds : List PyData} {i : Nat} {d : PyData}, fewAll ds = true → ds[i]? = some d → few d = true
  | [], i, d, _, h => by simp at h
  | x :: r, 0, d, h, e => by
    obtain rfl : x = d := by simpa using e
    rw [fewAll, Bool.and_eq_true] at h
    exact h.1
  | x :: r, i + 1, d, h, e => by
    rw [fewAll, Bool.and_eq_true] at h
    exact few_at (i := i) h.2 (by simpa using e)
theorem few_items {d : PyData} {ds : List PyData} (h : few d = true) (e : d = .list ds ∨ d = .tuple ds) : ds.length ≤ 1000000 ∧ fewAll ds = true := by
  rcases e with rfl | rfl <;> (unfold few at h; rw [Bool.and_eq_true] at h; exact ⟨of_decide_eq_true h.1, h.2⟩)
theorem rix_of {K : PySem.W.Frag} {H : Hp} {a : Addr} {xs : List V} {j : Nat} {i : Int} {v : V} {Q : VK} (s : SqL K H a xs ∨ SqT K H a xs) (q : xs[j]? = some v) (e : i = (j : Int)) (k : Q v H) : rIx K (.ref a) (.int i) H Q := by
  subst e
  rcases s with s | s
  · exact .inl ⟨a, xs, _, v, rfl, rfl, s, atI_nat q, k⟩
  · exact .inr (.inl ⟨a, xs, _, v, rfl, rfl, s, atI_nat q, k⟩)
theorem seq_same {K : PySem.W.Frag} {H H' : Hp} {a : Addr} {xs : List V} (e : Same H H') (s : SqL K H a xs ∨ SqT K H a xs) : SqL K H' a xs ∨ SqT K H' a xs := by
  rcases s with s | s
  · exact .inl (e.seq s)
  · exact .inr (same_tup e s)
/-- within a comprehension's block the written part must be said by its letter -/
theorem ixq {X : Cx} {K : PySem.W.Frag} (e : X.K = K := by rfl) : IxR X (rIx K) := e ▸ ix_seq
theorem ixl {X : Cx} {K : PySem.W.Frag} (e : X.K = K := by rfl) : IxR X (rIxL K) := e ▸ ix_list
theorem ixt {X : Cx} {K : PySem.W.Frag} (e : X.K = K := by rfl) : IxR X (rIxT K) := e ▸ ix_tup
/-- two things that are read as one datum match -/
def spM (K : PySem.W.Frag) (n : Nat) : Sp := fun vs H Q _ => ∃ (x y : V) (d : PyData), vs = [x, y] ∧ Dp K H x d ∧ Dp K H y d ∧ d.canLay0 = true ∧ d.depth < n ∧ d.depth ≤ 60 ∧ few d = true ∧ ∀ H', Same H H' → Q (.bl true) H'
theorem ok_never {P : Program} {w : World} {K : PySem.W.Frag} {mg : Str → Option Value} {base : Heap} {k : Nat} {f : Addr} {fd : FuncData} {ps : List Str} : FnOk P w K mg base CX0 k f fd ps (spM K 0) :=
  ⟨fun vs H Q E h => by obtain ⟨_, _, d, _, _, _, _, n, _⟩ := h; exact absurd n (Nat.not_lt_zero _), fun A outer s H args us vs Q E _ _ _ _ h => by obtain ⟨_, _, d, _, _, _, _, n, _⟩ := h; exact absurd n (Nat.not_lt_zero _)⟩
end LK
namespace X6
open PySem PySem.Spec PyProof.Rows L2 LK
abbrev sMat : Stmt := top 29
section
variable {P : Program} {w : World} {K : PySem.W.Frag} {mg : Str → Option Value} {base : Heap}
theorem scMat : FnScope ["found", "due", "k"] ["found", "due"] (defScope sMat) := ⟨rfl, rfl, rfl, by decide +kernel, rfl, by decide +kernel, by decide +kernel⟩
theorem mat_step {f : Addr} {fd : FuncData} (n : Nat) (F : Fun K "_law_matched" "_law_matched" sMat f fd) (B : Bl mg) (g_ : mg "_law_matched" = some (.ref f)) (b_ : Binds K fd ["found", "due"] []) (G : FnOk P w K mg base CX0 n f fd ["found", "due"] (spM K n)) :
    FnOk P w K mg base CX0 (n + 1) f fd ["found", "due"] (spM K (n + 1)) := by
  refine F.ok scMat (fun vs H Q E h => ?_) (fun cdv A outer s H vs Q E hr h => ?_)
  · obtain ⟨x, y, d, rfl, _⟩ := h
    rfl
  · obtain ⟨x, y, d, rfl, hx, hy, lay, dn, d60, fw, k⟩ := h
    refine ⟨_, pss_cons (ps_if (PW.pt (pw_or (pt_val (pe_callB call_isi (by rfl) (B "isinstance" (by decide)) (by decide +kernel) (pa_cons (pv 0) (pa_cons (pe_bltn (v := .ty "bool") rfl (B "bool" (by decide)) (by decide +kernel) rfl) pa_nil)))) (pw_or1 (pt_val (pe_callB call_isi (by rfl) (B "isinstance" (by decide)) (by decide +kernel) (pa_cons (pv 1) (pa_cons (pe_bltn (v := .ty "bool") rfl (B "bool" (by decide)) (by decide +kernel) rfl) pa_nil))))))) (pss_one (ps_ret (pe_and (pe_callB call_isi (by rfl) (B "isinstance" (by decide)) (by decide +kernel) (pa_cons (pv 0) (pa_cons (pe_bltn (v := .ty "bool") rfl (B "bool" (by decide)) (by decide +kernel) rfl) pa_nil))) (pe_and (pe_callB call_isi (by rfl) (B "isinstance" (by decide)) (by decide +kernel) (pa_cons (pv 1) (pa_cons (pe_bltn (v := .ty "bool") rfl (B "bool" (by decide)) (by decide +kernel) rfl) pa_nil))) (pe_one (pe_cmpR (op_eqD hr.units) (pv 0) (pv 1) (nomark _))))))) pss_nil)
      (pss_cons (ps_if (PW.pt (pw_or (pt_cmpR op_ne (pe_callB call_isi (by rfl) (B "isinstance" (by decide)) (by decide +kernel) (pa_cons (pv 0) (pa_cons (pe_bltn (v := .ty "list") rfl (B "list" (by decide)) (by decide +kernel) rfl) pa_nil))) (pe_callB call_isi (by rfl) (B "isinstance" (by decide)) (by decide +kernel) (pa_cons (pv 1) (pa_cons (pe_bltn (v := .ty "list") rfl (B "list" (by decide)) (by decide +kernel) rfl) pa_nil))) (nomark _)) (pw_or1 (pt_cmpR op_ne (pe_callB call_isi (by rfl) (B "isinstance" (by decide)) (by decide +kernel) (pa_cons (pv 0) (pa_cons (pe_bltn (v := .ty "tuple") rfl (B "tuple" (by decide)) (by decide +kernel) rfl) pa_nil))) (pe_callB call_isi (by rfl) (B "isinstance" (by decide)) (by decide +kernel) (pa_cons (pv 1) (pa_cons (pe_bltn (v := .ty "tuple") rfl (B "tuple" (by decide)) (by decide +kernel) rfl) pa_nil))) (nomark _))))) (pss_one (ps_ret pe_bl)) pss_nil)
      (pss_cons (ps_if (PW.pt (pw_or (pt_cmpR op_ne (pe_callB call_isi (by rfl) (B "isinstance" (by decide)) (by decide +kernel) (pa_cons (pv 0) (pa_cons (pe_bltn (v := .ty "str") rfl (B "str" (by decide)) (by decide +kernel) rfl) pa_nil))) (pe_callB call_isi (by rfl) (B "isinstance" (by decide)) (by decide +kernel) (pa_cons (pv 1) (pa_cons (pe_bltn (v := .ty "str") rfl (B "str" (by decide)) (by decide +kernel) rfl) pa_nil))) (nomark _)) (pw_or1 (pt_cmpR op_ne (pe_callB call_isi (by rfl) (B "isinstance" (by decide)) (by decide +kernel) (pa_cons (pv 0) (pa_cons (pe_bltn (v := .ty "int") rfl (B "int" (by decide)) (by decide +kernel) rfl) pa_nil))) (pe_callB call_isi (by rfl) (B "isinstance" (by decide)) (by decide +kernel) (pa_cons (pv 1) (pa_cons (pe_bltn (v := .ty "int") rfl (B "int" (by decide)) (by decide +kernel) rfl) pa_nil))) (nomark _))))) (pss_one (ps_ret pe_bl)) pss_nil)
      (pss_cons (ps_if (pt_val (pe_callB call_isiT (by rfl) (B "isinstance" (by decide)) (by decide +kernel) (pa_cons (pv 1) (pa_cons (pe_tup (pa_cons (pe_bltn (v := .ty "list") rfl (B "list" (by decide)) (by decide +kernel) rfl) (pa_cons (pe_bltn (v := .ty "tuple") rfl (B "tuple" (by decide)) (by decide +kernel) rfl) pa_nil))) pa_nil)))) (pss_cons (ps_if (pt_cmpR op_ne (pe_callB call_len_seq (by rfl) (B "len" (by decide)) (by decide +kernel) (pa_cons (pv 0) pa_nil)) (pe_callB call_len_seq (by rfl) (B "len" (by decide)) (by decide +kernel) (pa_cons (pv 1) pa_nil)) (nomark _)) (pss_one (ps_ret pe_bl)) pss_nil)
      (pss_one (ps_ret (pe_cmpR (op_eqD hr.units) (pe_lc (own := [("k", 2)]) (g := gName 2) rfl scMat.nd (pi_range1 (by rfl) (B "range" (by decide)) (pa_cons (pe_callB call_len_seq (by rfl) (B "len" (by decide)) (by decide +kernel) (pa_cons (pv 1) pa_nil)) pa_nil)) (blkOk_by (N := ["found", "due", "k"]) (sc := defScope sMat) (by decide +kernel)) (fun _ _ _ _ _ => pg_name (i := 2) scMat.nd rfl (Or.inl rfl)) (fun _ _ _ _ _ => pts_one (pt_not (pt_val (pe_call (E := E0) G hr rfl g_ F.kp b_ .nil pass0 (pa_cons (pe_ix (ixq (K := K)) (pv 0) (pv 2) (fun _ _ => rfl)) (pa_cons (pe_ix (ixq (K := K)) (pv 1) (pv 2) (fun _ _ => rfl)) pa_nil)))))) (fun _ _ _ _ _ => pv 2)) (pe_lst pa_nil) (nomark _))))) pss_nil)
      (pss_one (ps_ret (pe_and (pe_cmpR op_eq (pe_cmpR op_isN (pv 0) pe_non (nomark _)) (pe_cmpR op_isN (pv 1) pe_non (nomark _)) (nomark _)) (pe_one (pe_cmpR (op_eqD hr.units) (pv 0) (pv 1) (nomark _))))))))), ?_⟩
    have sh : SeqAt.shaped d = true := shaped_of lay (by omega)
    have is1 : ∀ T, T ∈ (["bool", "int", "str", "list", "tuple"] : List String) → PySem.W.kitOne K (.type (tyN d)) (.type T) = some (isK d T) := fun T hT => kit_d hx T hT
    -- bool?
    refine ⟨_, rfl, _, _, _, _, _, rfl, .ty "bool", dp_ty hx, is1 "bool" (by decide), _, rfl, ?_⟩
    by_cases e1 : isK d "bool" = true
    · refine LK.ifT e1 (LK.ifT rfl ?_)
      refine ⟨_, rfl, _, _, _, _, _, rfl, .ty "bool", dp_ty hx, is1 "bool" (by decide), _, rfl, LK.ifT e1 ?_⟩
      refine ⟨_, rfl, _, _, _, _, _, rfl, .ty "bool", dp_ty hy, is1 "bool" (by decide), _, rfl, LK.ifT e1 ?_⟩
      refine ⟨_, rfl, _, rfl, d, d, hx, hy, sh, sh, ?_⟩
      rw [SeqAt.eqv_refl d lay]
      exact k H (Same.refl H)
    have e1' : isK d "bool" = false := by simpa using e1
    refine LK.ifF e1' ?_
    refine ⟨_, rfl, _, _, _, _, _, rfl, .ty "bool", dp_ty hy, is1 "bool" (by decide), _, rfl, LK.ifF e1' ?_⟩
    -- the kinds agree
    refine ⟨_, rfl, _, _, _, _, _, rfl, .ty "list", dp_ty hx, is1 "list" (by decide), _, rfl, _, _, _, _, _, rfl, .ty "list", dp_ty hy, is1 "list" (by decide), rfl, _, rfl, LK.ifF (by simp) ?_⟩
    refine ⟨_, rfl, _, _, _, _, _, rfl, .ty "tuple", dp_ty hx, is1 "tuple" (by decide), _, rfl, _, _, _, _, _, rfl, .ty "tuple", dp_ty hy, is1 "tuple" (by decide), rfl, _, rfl, LK.ifF (by simp) ?_⟩
    refine ⟨_, rfl, _, _, _, _, _, rfl, .ty "str", dp_ty hx, is1 "str" (by decide), _, rfl, _, _, _, _, _, rfl, .ty "str", dp_ty hy, is1 "str" (by decide), rfl, _, rfl, LK.ifF (by simp) ?_⟩
    refine ⟨_, rfl, _, _, _, _, _, rfl, .ty "int", dp_ty hx, is1 "int" (by decide), _, rfl, _, _, _, _, _, rfl, .ty "int", dp_ty hy, is1 "int" (by decide), rfl, _, rfl, LK.ifF (by simp) ?_⟩
    -- a list or a tuple?
    refine ⟨_, rfl, by show 2 ≤ sizeLine; decide, fun tp ntp => ⟨_, tp, _, _, _, _, rfl, upd_same, .cons (.ty "list") (.cons (.ty "tuple") .nil), dp_ty (dp_same (same_new ntp) hy), kit_lt hy, _, rfl, ?_⟩⟩
    have s1 : Same H (upd H tp (.tup [.ty "list", .ty "tuple"])) := same_new ntp
    have hx1 := dp_same s1 hx
    have hy1 := dp_same s1 hy
    by_cases e2 : (isK d "list" || isK d "tuple") = true
    · refine LK.ifT e2 ?_
      obtain ⟨a, xs, ds, rfl, sa, da, dd⟩ := dp_items hx1 e2
      obtain ⟨b, ys, es, rfl, sb, db, de⟩ := dp_items hy1 e2
      have ee : es = ds := by
        rcases dd with rfl | rfl <;> rcases de with q | q <;> cases q <;> rfl
      subst ee
      have l1 := dps_len da
      have l2 := dps_len db
      have lay2 : PyData.canLayAll0 es = true := by
        rcases dd with rfl | rfl <;> simpa only [PyData.canLay0] using lay
      have dep : PyData.depthAll es + 1 = d.depth := by
        rcases dd with rfl | rfl <;> rfl
      refine ⟨_, rfl, a, _, rfl, sa, _, rfl, b, _, rfl, sb, rfl, _, rfl, LK.ifF (by rw [l1, l2]; simp) ?_⟩
      obtain ⟨big, fw2⟩ := few_items fw dd
      refine ⟨_, rfl, b, _, rfl, sb, (ys.length : Int), rfl, by omega, by omega, fun D nD => ?_⟩
      refine lc_range (lo := 0) (n := ys.length) (fun j H' => Same (upd H tp (.tup [.ty "list", .ty "tuple"])) H' ∧ H' D = some (.lst [])) ⟨same_new nD, upd_same⟩ (fun j H' hj hh => ⟨rfl, ?_⟩) (fun H' hh => ?_)
      · obtain ⟨s2, hD⟩ := hh
        obtain ⟨v1, d1, q1, q2, q3⟩ := dps_at (dps_same s2 da) (i := j) (by omega)
        obtain ⟨v2, d2, p1, p2, p3⟩ := dps_at (dps_same s2 db) (i := j) (by omega)
        obtain rfl : d1 = d2 := Option.some.inj (q2.symm.trans p2)
        obtain ⟨la, ld⟩ := lay_at lay2 q2
        refine ⟨_, rfl, _, rfl, rix_of (seq_same s2 sa) q1 (Int.zero_add _) ⟨_, rfl, _, rfl, rix_of (seq_same s2 sb) p1 (Int.zero_add _) ?_⟩⟩
        exact ⟨v1, v2, d1, rfl, q3, p3, la, by omega, by omega, few_at fw2 q2, fun H3 s3 => ⟨_, rfl, LK.ifF rfl ⟨s2.trans s3, s3 _ _ hD⟩⟩⟩
      · obtain ⟨s2, hD⟩ := hh
        refine ⟨by show 0 ≤ sizeLine; decide, fun q nq => ?_⟩
        have s3 : Same H' (upd H' q (.lst [])) := same_new nq
        refine ⟨_, _, .lst (SqL.of (s3 _ _ hD)) .nil, .lst (SqL.of upd_same) .nil, by decide +kernel, by decide +kernel, ?_⟩
        exact k _ ((s1.trans s2).trans s3)
    · have e2' : (isK d "list" || isK d "tuple") = false := by simpa using e2
      refine LK.ifF e2' ?_
      refine ⟨_, rfl, rfl, _, rfl, rfl, rfl, _, rfl, LK.ifT ?_ ⟨_, rfl, _, rfl, d, d, hx1, hy1, sh, sh, ?_⟩⟩
      · cases hx with
        | non => cases hy; rfl
        | bl b => cases hy; rfl
        | int i => cases hy; rfl
        | str x => cases hy; rfl
        | lst s a => exact absurd e2 (by simp [isK, tyN]; decide +kernel)
        | tup s a => exact absurd e2 (by simp [isK, tyN]; decide +kernel)
      · rw [SeqAt.eqv_refl d lay]
        exact k _ s1
end
end X6
namespace X6
open PySem PySem.Spec PyProof.Rows L2 LK
abbrev sKids : Stmt := top 32
/-- a loop as it is read: its thread, its parents -/
abbrev Lp := Str × List Int
def lpD (l : Lp) : PyData := .tuple [.str l.1, .tuple (l.2.map PyData.int)]
/-- the numbers of the loops that have spot among their parents -/
def kidsOf (ls : List Lp) (spot : Int) : List Nat := (List.range ls.length).filter fun k => match ls[k]? with
  | some l => decide (spot ∈ l.2)
  | none => false
def spKids (K : PySem.W.Frag) : Sp := fun vs H Q _ => ∃ (a : Addr) (spot : Int) (xs : List V) (ls : List Lp), vs = [.ref a, .int spot] ∧ SqL K H a xs ∧ DpAll K H xs (ls.map lpD) ∧ ls.length ≤ 100000 ∧
  ∀ (H' : Hp) (p : Addr), H p = none → Same H H' → H' p = some (.lst ((kidsOf ls spot).map fun k : Nat => V.int (k : Int))) → Q (.ref p) H'
theorem inV_int (i : Int) : ∀ ns : List Int, inV (.int i) (ns.map V.int) = decide (i ∈ ns)
  | [] => by simp [inV]
  | n :: r => by
    have h := inV_int i r
    unfold inV at h ⊢
    rw [List.map_cons, List.any_cons, h]
    by_cases e : n = i
    · subst e
      simp [eqV]
    · have e' : ¬ i = n := fun z => e z.symm
      simp [eqV, e, e']
theorem flat_ints (ns : List Int) : (ns.map V.int).all flatV = true := by
  rw [List.all_map]
  exact List.all_eq_true.mpr fun _ _ => rfl
theorem dp_ints {K : PySem.W.Frag} {H : Hp} : ∀ {xs : List V} {ns : List Int}, DpAll K H xs (ns.map PyData.int) → xs = ns.map V.int
  | _, [], .nil => rfl
  | _, n :: r, .cons (.int _) t => by rw [dp_ints t]; rfl
theorem filt_more (f : Nat → Bool) (n : Nat) : (List.range (n + 1)).filter f = (List.range n).filter f ++ (if f n then [n] else []) := by
  rw [List.range_succ, List.filter_append]
  congr 1
  simp [List.filter_cons]
section
variable {P : Program} {w : World} {K : PySem.W.Frag} {mg : Str → Option Value} {base : Heap}
theorem scKids : FnScope ["loops_here", "spot", "k"] ["loops_here", "spot"] (defScope sKids) := ⟨rfl, rfl, rfl, by decide +kernel, rfl, by decide +kernel, by decide +kernel⟩
theorem inq {X : Cx} {K : PySem.W.Frag} (e : X.K = K := by rfl) : OpR X (compareOp .In) (rIn K false) := e ▸ op_in_seq
theorem ok_kids {f : Addr} {fd : FuncData} (F : Fun K "_law_kids" "_law_kids" sKids f fd) (B : Bl mg) : FnOk P w K mg base CX0 1 f fd ["loops_here", "spot"] (spKids K) := by
  refine F.ok scKids (fun vs H Q E h => ?_) (fun cdv A outer s H vs Q E hr h => ?_)
  · obtain ⟨a, spot, xs, ls, rfl, _⟩ := h
    rfl
  · obtain ⟨a, spot, xs, ls, rfl, hs, hd, hl, k⟩ := h
    have len : xs.length = ls.length := by rw [dps_len hd, List.length_map]
    refine ⟨_, pss_one (ps_ret (pe_lc (own := [("k", 2)]) (g := gName 2) rfl scKids.nd (pi_range1 (by rfl) (B "range" (by decide)) (pa_cons (pe_callB call_len_seq (by rfl) (B "len" (by decide)) (by decide +kernel) (pa_cons (pv 0) pa_nil)) pa_nil)) (blkOk_by (N := ["loops_here", "spot", "k"]) (sc := defScope sKids) (by decide +kernel)) (fun _ _ _ _ _ => pg_name (i := 2) scKids.nd rfl (Or.inl rfl)) (fun _ _ _ _ _ => pts_one (pt_cmpR (inq (K := K)) (pv 1) (pe_ix (ixt (K := K)) (pe_ix (ixl (K := K)) (pv 0) (pv 2) (fun _ _ => rfl)) pe_int (fun _ _ => rfl)) (by rfl))) (fun _ _ _ _ _ => pv 2))), ?_⟩
    refine ⟨_, rfl, a, _, rfl, .inl hs, (xs.length : Int), rfl, by omega, by omega, fun D nD => ?_⟩
    refine lc_range (lo := 0) (n := xs.length) (fun j H' => Same H H' ∧ H' D = some (.lst (((List.range j).filter fun k => match ls[k]? with
      | some l => decide (spot ∈ l.2)
      | none => false).map fun k : Nat => V.int (k : Int)))) ⟨same_new nD, upd_same⟩ (fun j H' hj hh => ⟨rfl, ?_⟩) (fun H' hh => ?_)
    · obtain ⟨s1, hD⟩ := hh
      obtain ⟨v1, d1, q1, q2, q3⟩ := dps_at (dps_same s1 hd) (i := j) (by rw [List.length_map]; omega)
      rw [List.getElem?_map] at q2
      obtain ⟨l, hl1, rfl⟩ := Option.map_eq_some_iff.mp q2
      cases q3 with
      | tup st da =>
        cases da with
        | cons d1 da =>
          cases d1
          cases da with
          | cons d2 dn =>
            cases dn
            cases d2 with
            | tup st2 da2 =>
              have ex := dp_ints da2
              subst ex
              refine ⟨_, rfl, _, rfl, _, rfl, a, _, _, _, rfl, rfl, s1.seq hs, (by rw [Int.zero_add]; exact atI_nat q1), _, _, _, _, rfl, rfl, st, atI_nat (j := 1) rfl, ?_⟩
              refine ⟨_, _, rfl, .inr st2, rfl, flat_ints _, _, rfl, ?_⟩
              show if inV (.int spot) (l.2.map V.int) = true then _ else _
              rw [inV_int, filt_more]
              simp only [hl1]
              by_cases c : spot ∈ l.2
              · rw [decide_eq_true c]
                refine LK.ifT rfl ⟨_, rfl, _, hD, ?_, (fun b o e => ?_), ?_⟩
                · rw [List.length_map]
                  have z := List.length_filter_le (fun k => match ls[k]? with
                    | some l => decide (spot ∈ l.2)
                    | none => false) (List.range j)
                  rw [List.length_range] at z
                  exact Nat.lt_of_le_of_lt z (Nat.lt_of_lt_of_le (Nat.lt_of_lt_of_le hj (by omega : xs.length ≤ 100000)) (by decide))
                · rw [upd_ne (ne_of_none e nD)]
                  exact s1 b o e
                · rw [upd_same]
                  simp
              · rw [decide_eq_false c]
                refine LK.ifF rfl ⟨s1, ?_⟩
                simpa using hD
    · obtain ⟨s1, hD⟩ := hh
      refine k H' D nD s1 ?_
      rw [hD, len]
      rfl
end
end X6
/-! Threads: the laws' letters, the words made of them. -/
namespace LK
open PySem PySem.Spec PyProof.Rows L2
def abc : Str := "abcdefghijklmnopqrstuvwxyz"
/-- the letter of number m -/
def lett (m : Nat) : Str := ⟨#[97 + m]⟩
theorem abc_len : abc.length ≤ sizeLine := by decide +kernel
theorem abc_at {i : Int} (h0 : 0 ≤ i) (h : i < 26) : atI abc.cps.toList i = some (97 + i.toNat) := by
  obtain ⟨n, rfl⟩ := Int.eq_ofNat_of_zero_le h0
  have : ∀ n < 26, atI abc.cps.toList ((n : Nat) : Int) = some (97 + n) := by decide +kernel
  exact this n (by omega)
/-- one to eight small letters -/
def Lt (z : Str) : Prop := ∀ c ∈ z.cps.toList, 97 ≤ c ∧ c ≤ 122
def Yn (z : Str) : Prop := 1 ≤ z.length ∧ z.length ≤ 8 ∧ Lt z
theorem len_app (x y : Str) : (x ++ y).length = x.length + y.length := by
  show (x ++ y).cps.size = x.cps.size + y.cps.size
  rw [PySem.Str.cps_append, Array.size_append]
theorem lt_app {x y : Str} (a : Lt x) (b : Lt y) : Lt (x ++ y) := fun c h => by
  rw [PySem.Str.cps_append, Array.toList_append, List.mem_append] at h
  exact h.elim (a c) (b c)
theorem lt_lett {m : Nat} (h : m < 26) : Lt (lett m) := fun c e => by
  have : c = 97 + m := by simpa [lett] using e
  omega
theorem len_lett (m : Nat) : (lett m).length = 1 := rfl
theorem lt_cut {z : Str} (h : Lt z) (lo hi : Option Int) : Lt (cutS z lo hi) := fun c e => by
  refine h c ?_
  unfold cutS at e
  simp only [] at e
  exact List.mem_of_mem_drop (List.mem_of_mem_take e)
theorem join_lt : ∀ (ys : List Str), (∀ y ∈ ys, Lt y) → Lt (Str.join "" ys) ∧ (Str.join "" ys).length = (ys.map (·.length)).sum
  | [], _ => ⟨fun c e => by rw [show (Str.join "" []).cps.toList = [] by decide +kernel] at e; exact absurd e List.not_mem_nil, rfl⟩
  | [y], h => ⟨h y (List.mem_cons_self ..), by simp [Str.join]⟩
  | y :: z :: r, h => by
    obtain ⟨a, b⟩ := join_lt (z :: r) fun x hx => h x (List.mem_cons_of_mem _ hx)
    have e0 : Lt ("" : Str) := fun c e => by rw [show ("" : Str).cps.toList = [] by decide +kernel] at e; exact absurd e List.not_mem_nil
    have z0 : ("" : Str).length = 0 := by decide +kernel
    refine ⟨lt_app (lt_app (h y (List.mem_cons_self ..)) e0) a, ?_⟩
    show (y ++ "" ++ Str.join "" (z :: r)).length = _
    rw [len_app, len_app, b, z0]
    simp only [List.map_cons, List.sum_cons]
    omega
theorem sum_ones : ∀ (ys : List Str), (∀ y ∈ ys, y.length = 1) → (ys.map (·.length)).sum = ys.length
  | [], _ => rfl
  | y :: r, h => by
    rw [List.map_cons, List.sum_cons, h y (List.mem_cons_self ..), sum_ones r fun x hx => h x (List.mem_cons_of_mem _ hx), List.length_cons, Nat.add_comm]
theorem join_ab (ys : List Str) (h : ∀ y ∈ ys, Lt y ∧ y.length = 1) : Lt (Txt.join "" ys) ∧ (Txt.join "" ys).length = ys.length := by
  show Lt (Builtin.Str.glued "" ys) ∧ (Builtin.Str.glued "" ys).length = _
  rw [StrLaws.glued_eq_join]
  obtain ⟨a, b⟩ := join_lt ys fun y hy => (h y hy).1
  exact ⟨a, b.trans (sum_ones ys fun y hy => (h y hy).2)⟩
theorem app_inj {m n k : Nat} (e : lett m ++ lett k = lett n ++ lett k) : m = n := by
  have e1 : (lett m ++ lett k).cps.toList = (lett n ++ lett k).cps.toList := by rw [e]
  rw [PySem.Str.cps_append, PySem.Str.cps_append, Array.toList_append, Array.toList_append] at e1
  simp [lett] at e1
  exact e1
/-- more pigeons than holes -/
theorem sub_len {α : Type} [DecidableEq α] : ∀ (xs ys : List α), xs.Nodup → (∀ x ∈ xs, x ∈ ys) → xs.length ≤ ys.length
  | [], _, _, _ => Nat.zero_le _
  | x :: r, ys, nd, h => by
    have hx := h x (List.mem_cons_self ..)
    have l := List.length_erase_of_mem hx
    have p : 0 < ys.length := List.length_pos_of_mem hx
    have nd' := List.nodup_cons.mp nd
    have := sub_len r (ys.erase x) nd'.2 fun y hy => (List.mem_erase_of_ne (fun e => nd'.1 (by rw [← e]; exact hy))).mpr (h y (List.mem_cons_of_mem _ hy))
    simp only [List.length_cons]
    omega
theorem hole {α : Type} [DecidableEq α] (xs ys : List α) (nd : xs.Nodup) (l : ys.length < xs.length) : ∃ x ∈ xs, x ∉ ys := by
  by_cases h : ∃ x ∈ xs, x ∉ ys
  · exact h
  · have := sub_len xs ys nd fun x hx => by
      by_cases e : x ∈ ys
      · exact e
      · exact absurd ⟨x, hx, e⟩ h
    omega
/-- the words that are spare -/
def spare (s k : Nat) : List Str := (List.range 26).map fun t => lett ((s + t) % 26) ++ lett k
theorem spare_nodup (s k : Nat) (h : s < 26) : (spare s k).Nodup := by
  have nd : ∀ s < 26, ((List.range 26).map fun t => (s + t) % 26).Nodup := by decide +kernel
  have e : spare s k = ((List.range 26).map fun t => (s + t) % 26).map fun m => lett m ++ lett k := by
    unfold spare
    rw [List.map_map]
    rfl
  rw [e]
  exact List.Pairwise.map _ (fun a b ne q => ne (app_inj q)) (nd s h)
theorem spare_yn {s k : Nat} (hk : k < 26) {w : Str} (h : w ∈ spare s k) : Yn w := by
  obtain ⟨t, _, rfl⟩ := List.mem_map.mp h
  refine ⟨?_, ?_, lt_app (lt_lett (Nat.mod_lt _ (by decide))) (lt_lett hk)⟩
  · rw [len_app, len_lett, len_lett]
    decide
  · rw [len_app, len_lett, len_lett]
    decide
theorem spare_free {s k : Nat} (h : s < 26) (found : List Str) (l : found.length < 26) : (spare s k).filter (fun w => decide (w ∉ found)) ≠ [] := by
  obtain ⟨w, hw, n⟩ := hole (spare s k) found (spare_nodup s k h) (by rw [spare, List.length_map, List.length_range]; exact l)
  intro e
  have : w ∈ (spare s k).filter (fun w => decide (w ∉ found)) := List.mem_filter.mpr ⟨hw, decide_eq_true n⟩
  rw [e] at this
  exact List.not_mem_nil this
theorem cut_max (z : Str) (lo hi : Option Int) : (cutS z lo hi).length ≤ HT.sIx z.length z.length hi - HT.sIx z.length 0 lo := by
  show (((z.cps.toList.drop (HT.sIx z.length 0 lo)).take (HT.sIx z.length z.length hi - HT.sIx z.length 0 lo)).toArray).size ≤ _
  rw [List.size_toArray, List.length_take]
  exact Nat.min_le_left _ _
theorem cut_seven (z : Str) : (cutS z none (some 7)).length ≤ 7 := by
  refine Nat.le_trans (cut_max z _ _) ?_
  rw [show HT.sIx z.length z.length (some 7) = min 7 z.length from HT.sIx_nat _ _ 7, HT.sIx_none]
  omega
theorem cut_last {z : Str} (h : z.length ≤ 8) : (cutS z none (some (-1))).length ≤ 7 := by
  refine Nat.le_trans (cut_max z _ _) ?_
  have : HT.sIx z.length z.length (some (-1)) = ((-1 : Int) + (z.length : Int)).toNat := rfl
  rw [this, HT.sIx_none]
  omega
theorem yn_one {y : Str} (m : Nat) (hm : m < 26) (l : y.length ≤ 7) (h : Lt y) : Yn (y ++ lett m) := by
  refine ⟨?_, ?_, lt_app h (lt_lett hm)⟩ <;> (rw [len_app, len_lett]; omega)
/-- texts of small letters are read as data -/
theorem ok_lt {z : Str} (h : Lt z) : PyData.canLay0 (.str z) = true := by
  show z.cps.all (· < 0x110000) = true
  rw [Array.all_eq_true_iff_forall_mem]
  intro c hc
  have := h c (by simpa using hc)
  exact decide_eq_true (by omega)
theorem lay_strs : ∀ ys : List Str, (∀ y ∈ ys, Lt y) → PyData.canLayAll0 (ys.map PyData.str) = true ∧ PyData.depthAll (ys.map PyData.str) ≤ 1
  | [], _ => ⟨rfl, by decide⟩
  | y :: r, h => by
    obtain ⟨a, b⟩ := lay_strs r fun x hx => h x (List.mem_cons_of_mem _ hx)
    constructor
    · rw [List.map_cons, PyData.canLayAll0, ok_lt (h y (List.mem_cons_self ..)), a]
      rfl
    · simp only [List.map_cons, PyData.depthAll, PyData.depth]
      omega
theorem dp_strs {K : PySem.W.Frag} {H : Hp} : ∀ ys : List Str, DpAll K H (ys.map V.str) (ys.map PyData.str)
  | [] => .nil
  | y :: r => .cons (.str y) (dp_strs r)
theorem sh_strs {ys : List Str} (h : ∀ y ∈ ys, Lt y) : SeqAt.shaped (.list (ys.map PyData.str)) = true := by
  obtain ⟨a, b⟩ := lay_strs ys h
  refine shaped_of (by simpa only [PyData.canLay0] using a) ?_
  simp only [PyData.depth]
  omega
theorem eqv_nil (ys : List Str) : PyData.eqv (.list (ys.map PyData.str)) (.list []) = ys.isEmpty := by
  cases ys with
  | nil => rfl
  | cons y r => rfl
theorem at_last {ys : List Str} (h : ys ≠ []) : ∃ y ∈ ys, atI (ys.map V.str) (-1) = some (.str y) := by
  refine ⟨ys.getLast h, List.getLast_mem h, ?_⟩
  have e : ys.map V.str = ys.dropLast.map V.str ++ [V.str (ys.getLast h)] := by
    have := congrArg (List.map V.str) (List.dropLast_concat_getLast h)
    rw [List.map_append] at this
    exact this.symm
  rw [e]
  exact atI_last _ _
theorem inV_str (y : Str) : ∀ ys : List Str, inV (.str y) (ys.map V.str) = decide (y ∈ ys)
  | [] => by simp [inV]
  | x :: r => by
    have h := inV_str y r
    unfold inV at h ⊢
    rw [List.map_cons, List.any_cons, h]
    by_cases e : x = y
    · subst e
      simp [eqV]
    · have e' : ¬ y = x := fun z => e z.symm
      simp [eqV, e, e']
theorem flat_strs (ys : List Str) : (ys.map V.str).all flatV = true := by
  rw [List.all_map]
  exact List.all_eq_true.mpr fun _ _ => rfl
/-- the rest, from a word that holds at its start -/
theorem seqJ {A R : TS} {D : Ends} {σ : St} {H : Hp} (J : St → Hp → Prop) (hR : ∀ σ' H', J σ' H' → R D σ' H') (h : (∀ σ' H', J σ' H' → R D σ' H') → tSeq A R D σ H) : tSeq A R D σ H := h hR
end LK
namespace X6
open PySem PySem.Spec PyProof.Rows L2 LK
abbrev sYarns : Stmt := top 30
/-- a list of texts at D -/
def Ys (H : Hp) (D : Addr) (ys : List Str) : Prop := H D = some (.lst (ys.map V.str))
/-- many threads, drawn -/
def spYarns : Sp := fun vs H Q _ => ∃ (c : Addr) (many B : Nat), vs = [.ref c, .int many] ∧ many ≤ 25 ∧ CR H c B ∧ B + 1000 < 10 ^ 12 ∧
  ∀ (D : Addr) (H' : Hp) (ys : List Str), H D = none → CR H' c (B + 1000) → Bt c H H' → Ys H' D ys → ys.length = many → (∀ y ∈ ys, Yn y) → Q (.ref D) H'
/-- what stays through the turns -/
def Wd (H Hn : Hp) (c D : Addr) (B : Nat) (ys : List Str) : Prop := c ≠ D ∧ CR Hn c B ∧ Bt c H Hn ∧ Ys Hn D ys
theorem Wd.call {H Hn H' : Hp} {c D : Addr} {B : Nat} {ys : List Str} (h : Wd H Hn c D B ys) (h1 : CR H' c (B + 1)) (bt : Bt c Hn H') : Wd H H' c D (B + 1) ys := ⟨h.1, h1, h.2.2.1.trans bt, bt _ _ h.1.symm h.2.2.2⟩
theorem Wd.new {H Hn : Hp} {c D p : Addr} {B : Nat} {ys : List Str} {o : HO} (h : Wd H Hn c D B ys) (np : Hn p = none) : Wd H (upd Hn p o) c D B ys :=
  ⟨h.1, h.2.1.same (same_new np), h.2.2.1.trans (Bt.of (same_new np)), same_new np _ _ h.2.2.2⟩
theorem Wd.gone {H Hn : Hp} {c D p : Addr} {B : Nat} {ys : List Str} (h : Wd H Hn c D B ys) (np : Hn p = none) : H p = none ∧ p ≠ c ∧ p ≠ D := by
  have pc : p ≠ c := (h.2.1.fresh np).symm
  refine ⟨?_, pc, (ne_of_none h.2.2.2 np).symm⟩
  cases e : H p with
  | none => rfl
  | some o => rw [h.2.2.1 p o pc e] at np; cases np
theorem Wd.upd {H Hn : Hp} {c D p : Addr} {B : Nat} {ys : List Str} {o : HO} (h : Wd H Hn c D B ys) (g : H p = none ∧ p ≠ c ∧ p ≠ D) : Wd H (upd Hn p o) c D B ys :=
  ⟨h.1, h.2.1.upd g.2.1, fun b u n e => by rw [upd_ne (ne_of_none e g.1)]; exact h.2.2.1 b u n e, by unfold Ys; rw [upd_ne g.2.2.symm]; exact h.2.2.2⟩
theorem Wd.mono {H Hn : Hp} {c D : Addr} {B B' : Nat} {ys : List Str} (h : Wd H Hn c D B ys) (l : B ≤ B') : Wd H Hn c D B' ys := ⟨h.1, h.2.1.mono l, h.2.2⟩
theorem Wd.app {H Hn : Hp} {c D : Addr} {B : Nat} {ys : List Str} (h : Wd H Hn c D B ys) (nD : H D = none) (y : Str) : Wd H (L2.upd Hn D (.lst (ys.map V.str ++ [V.str y]))) c D B (ys ++ [y]) :=
  ⟨h.1, h.2.1.upd h.1.symm, fun b u n e => by rw [upd_ne (ne_of_none e nD)]; exact h.2.2.1 b u n e, by unfold Ys; rw [upd_same, List.map_append]; rfl⟩
theorem pick3 {d : Int} {k : Int} (d0 : 0 ≤ d) (d1 : d < 8) (k0 : 0 ≤ k) (k1 : k < 3) : ∃ z : Int, 0 ≤ z ∧ z < 8 ∧ atI [V.int 0, .int 1, .int d] k = some (.int z) := by
  obtain rfl | rfl | rfl : k = 0 ∨ k = 1 ∨ k = 2 := by omega
  · exact ⟨0, by decide, by decide, rfl⟩
  · exact ⟨1, by decide, by decide, rfl⟩
  · exact ⟨d, d0, d1, rfl⟩
section
variable {P : Program} {w : World} {K : PySem.W.Frag} {mg : Str → Option Value} {base : Heap}
theorem scYarns : FnScope ["creel", "many", "signs", "found", "k", "size", "sign", "yarn", "spare", "turn", "word"] ["creel", "many"] (defScope sYarns) := ⟨rfl, rfl, rfl, by decide +kernel, rfl, by decide +kernel, by decide +kernel⟩
theorem ninq {X : Cx} {K : PySem.W.Frag} (e : X.K = K := by rfl) : OpR X (compareOp .NotIn) (rIn K true) := e ▸ op_notIn_seq
theorem ok_yarns {f fp : Addr} {fd fdp : FuncData} (F : Fun K "_law_yarns" "_law_yarns" sYarns f fd) (Fp : Fun K "_law_ply" "_law_ply" sPly fp fdp) (B : Bl mg) (gp : mg "_law_ply" = some (.ref fp)) (bp : Binds K fdp ["creel", "span"] []) (Gp : FnOk P w K mg base CX0 1 fp fdp ["creel", "span"] spPly) :
    FnOk P w K mg base CX0 2 f fd ["creel", "many"] spYarns := by
  refine F.ok scYarns (fun vs H Q E h => ?_) (fun cdv A outer s H vs Q E hr h => ?_)
  · obtain ⟨c, many, bb, rfl, _⟩ := h
    rfl
  · obtain ⟨c, many, bb, rfl, hm, hc, hB, k⟩ := h
    refine ⟨_, pss_cons (ps_asg (pe_tup (pa_cons pe_str (pa_cons (pe_lst pa_nil) pa_nil))) (pg_tup rfl (pgs_cons (pg_name (i := 2) scYarns.nd rfl (Or.inr rfl)) (pgs_cons (pg_name (i := 3) scYarns.nd rfl (Or.inr rfl)) pgs_nil))))
      (pss_cons (ps_for PassesOwn.never rfl (pi_range1 (by rfl) (B "range" (by decide)) (pa_cons (pv 1) pa_nil)) (pg_name (i := 4) scYarns.nd rfl (Or.inr rfl)) (pss_cons (ps_asg (pe_tup (pa_cons (pe_ix ix_list (pe_lst (pa_cons pe_int (pa_cons pe_int (pa_cons (pe_call (E := E0) Gp hr rfl gp Fp.kp bp .nil pass0 (pa_cons (pv 0) (pa_cons pe_int pa_nil))) pa_nil)))) (pe_call (E := E0) Gp hr rfl gp Fp.kp bp .nil pass0 (pa_cons (pv 0) (pa_cons pe_int pa_nil))) (fun _ _ => rfl)) (pa_cons (pe_call (E := E0) Gp hr rfl gp Fp.kp bp .nil pass0 (pa_cons (pv 0) (pa_cons pe_int pa_nil))) pa_nil))) (pg_tup rfl (pgs_cons (pg_name (i := 5) scYarns.nd rfl (Or.inl rfl)) (pgs_cons (pg_name (i := 6) scYarns.nd rfl (Or.inr rfl)) pgs_nil))))
      (pss_cons (ps_set (i := 7) scYarns.nd rfl (Or.inl rfl) (pe_op op_add_str (pe_ix ix_str (pv 2) (pv 6) (fun _ _ => rfl)) (pe_join pe_str (pe_lc (own := [("turn", 9)]) (g := gName 9) (tt := tYes) rfl scYarns.nd (pi_range1 (by rfl) (B "range" (by decide)) (pa_cons (pv 5) pa_nil)) (blkOk_by (N := ["creel", "many", "signs", "found", "k", "size", "sign", "yarn", "spare", "turn", "word"]) (sc := defScope sYarns) (by decide +kernel)) (fun _ _ _ _ _ => pg_name (i := 9) scYarns.nd rfl (Or.inl rfl)) (fun _ _ _ _ _ => pts_nil) (fun _ _ _ _ _ => pe_ix ix_str (pv 2) (pe_call (E := E0) Gp hr rfl gp Fp.kp bp .nil pass0 (pa_cons (pv 0) (pa_cons pe_int pa_nil))) (fun _ _ => rfl))))))
      (pss_cons (ps_if (PW.pt (pw_and (pt_cmpR (op_neD hr.units) (pv 3) (pe_lst pa_nil) (nomark _)) (pw_and1 (pt_cmpR op_eq (pe_call (E := E0) Gp hr rfl gp Fp.kp bp .nil pass0 (pa_cons (pv 0) (pa_cons pe_int pa_nil))) pe_int (nomark _))))) (pss_one (ps_set (i := 7) scYarns.nd rfl (Or.inl rfl) (pe_ix ix_list (pe_lst (pa_cons (pe_op op_add_str (pe_slice sl_str (pe_ix ix_list (pv 3) (pe_un un_neg pe_int) (fun _ _ => rfl)) po_none (po_some pe_int)) (pe_ix ix_str (pv 2) (pv 6) (fun _ _ => rfl))) (pa_cons (pe_op op_add_str (pe_slice sl_str (pe_ix ix_list (pv 3) (pe_un un_neg pe_int) (fun _ _ => rfl)) po_none (po_some (pe_un un_neg pe_int))) (pe_ix ix_str (pv 2) (pv 6) (fun _ _ => rfl))) pa_nil))) (pe_call (E := E0) Gp hr rfl gp Fp.kp bp .nil pass0 (pa_cons (pv 0) (pa_cons pe_int pa_nil))) (fun _ _ => rfl)))) pss_nil)
      (pss_cons (ps_setLc (i := 8) (own := [("turn", 9)]) (g := gName 9) (tt := tYes) rfl scYarns.nd rfl rfl (sw_true rfl rfl rfl (by decide +kernel)) (pi_range1 (by rfl) (B "range" (by decide)) (pa_cons pe_int pa_nil)) (blkOk_by (N := ["creel", "many", "signs", "found", "k", "size", "sign", "yarn", "spare", "turn", "word"]) (sc := defScope sYarns) (by decide +kernel)) (fun _ _ _ _ _ => pg_name (i := 9) scYarns.nd rfl (Or.inl rfl)) (fun _ _ _ _ _ => pts_nil) (fun _ _ _ _ _ => pe_op op_add_str (pe_ix ix_str (pv 2) (pe_op op_mod (pe_op op_add (pv 6) (pv 9)) pe_int) (fun _ _ => rfl)) (pe_ix ix_str (pv 2) (pv 4) (fun _ _ => rfl))))
      (pss_one (ps_expr (pe_bm PySem.F.plainAttrs_list PySem.F.slot_list_append PySem.F.type_list_append mt_append (pv 3) (pa_cons (pe_ifExp (pt_cmpR op_notIn_seq (pv 7) (pv 3) (by rfl)) (pv 7) (pe_ix ix_list (pe_lc (own := [("word", 10)]) (g := gName 10) rfl scYarns.nd (pi_list (pv 8)) (blkOk_by (N := ["creel", "many", "signs", "found", "k", "size", "sign", "yarn", "spare", "turn", "word"]) (sc := defScope sYarns) (by decide +kernel)) (fun _ _ _ _ _ => pg_name (i := 10) scYarns.nd rfl (Or.inl rfl)) (fun _ _ _ _ _ => pts_one (pt_cmpR (ninq (K := K)) (pv 10) (pv 3) (by rfl))) (fun _ _ _ _ _ => pv 10)) pe_int (fun _ _ => rfl))) pa_nil)))))))))
      (pss_one (ps_ret (pv 3)))), ?_⟩
    refine ⟨(by show 0 ≤ sizeLine; decide), fun D nD => ⟨(by show 2 ≤ sizeLine; decide), fun T nT => ⟨T, _, rfl, .inl (.inl upd_same), rfl, _, _, rfl, _, _, rfl, rfl, ?_⟩⟩⟩
    have cD : c ≠ D := hc.fresh nD
    have cT : c ≠ T := by
      intro e
      subst e
      obtain ⟨_, _, _, e, _⟩ := hc
      rw [upd_ne cD, e] at nT
      cases nT
    have DT : D ≠ T := by
      intro e
      subst e
      rw [upd_same] at nT
      cases nT
    refine ⟨_, rfl, (many : Int), rfl, by omega, by omega, ?_⟩
    refine for_range (lo := 0) (n := many) (fun i σ H' => ∃ (ys : List Str) (o4 o5 o6 o7 o8 : Option V), σ = [some (.ref c), some (.int many), some (.str abc), some (.ref D), o4, o5, o6, o7, o8, none, none] ∧ ys.length = i ∧ (∀ y ∈ ys, Yn y) ∧ Wd H H' c D (bb + 40 * i) ys)
      ⟨[], _, _, _, _, _, rfl, rfl, fun y h => absurd h List.not_mem_nil, cD, (hc.upd cD.symm).upd cT.symm, fun b o _ e => same_new nT _ _ (same_new nD _ _ e), by unfold Ys; rw [upd_ne DT, upd_same]; rfl⟩ (fun i σ H1 hi hI => ?_) (fun σ H1 hI => ?_)
    · obtain ⟨ys, o4, o5, o6, o7, o8, rfl, hl, hn, hw⟩ := hI
      refine ⟨_, rfl, c, 8, _, rfl, by decide, by decide, hw.2.1, by omega, fun d1 H2 d10 d11 h2 b2 n2 => ?_⟩
      have hw2 := hw.call h2 b2
      refine ⟨(by show 3 ≤ sizeLine; decide), fun L nL => ?_⟩
      have hw3 := hw2.new (o := .lst [.int 0, .int 1, .int d1]) nL
      refine ⟨_, rfl, c, 3, _, rfl, by decide, by decide, hw3.2.1, by omega, fun d3 H3 d30 d31 h3 b3 n3 => ?_⟩
      have hw4 := hw3.call h3 b3
      have hL : H3 L = some (.lst [.int 0, .int 1, .int d1]) := b3 _ _ (hw2.2.1.fresh nL).symm upd_same
      obtain ⟨z, z0, z1, hz⟩ := pick3 d10 d11 d30 d31
      refine ⟨L, _, _, _, rfl, rfl, SqL.of hL, hz, ?_⟩
      refine ⟨_, rfl, c, 26, _, rfl, by decide, by decide, hw4.2.1, by omega, fun d4 H4 d40 d41 h4 b4 n4 => ?_⟩
      have hw5 := hw4.call h4 b4
      refine ⟨(by show 2 ≤ sizeLine; decide), fun T2 nT2 => ⟨T2, _, rfl, .inl (.inl upd_same), rfl, _, _, rfl, _, _, rfl, rfl, ?_⟩⟩
      have hw6 := hw5.new (o := .tup [.int z, .int d4]) nT2
      refine ⟨_, rfl, _, rfl, abc, d4, _, rfl, rfl, abc_len, abc_at d40 d41, ?_⟩
      refine ⟨⟨_, rfl⟩, _, rfl, z, rfl, by omega, by omega, fun G nG => ?_⟩
      have gG := hw6.gone nG
      refine lc_range (lo := 0) (n := z.toNat) (fun j H' => ∃ zs : List Str, H' G = some (.lst (zs.map V.str)) ∧ zs.length = j ∧ (∀ y ∈ zs, Lt y ∧ y.length = 1) ∧ Wd H H' c D (bb + 40 * i + 3 + j) ys) ⟨[], upd_same, rfl, fun y h => absurd h List.not_mem_nil, hw6.upd gG⟩ (fun j H' hj hh => ⟨rfl, ?_⟩) (fun H' hh => ?_)
      · obtain ⟨zs, hG, hzl, hzs, hw7⟩ := hh
        refine ⟨_, rfl, _, rfl, c, 26, _, rfl, by decide, by decide, hw7.2.1, by omega, fun d5 H5 d50 d51 h5 b5 n5 => ?_⟩
        refine ⟨abc, d5, _, rfl, rfl, abc_len, abc_at d50 d51, _, b5 _ _ gG.2.1 hG, ?_, zs ++ [lett d5.toNat], ?_, ?_, ?_, ?_⟩
        · rw [List.length_map, hzl]
          have : j < 8 := by omega
          exact Nat.lt_of_lt_of_le this (by decide)
        · rw [upd_same, List.map_append]
          rfl
        · rw [List.length_append, hzl]
          rfl
        · intro y hy
          rcases List.mem_append.mp hy with hy | hy
          · exact hzs y hy
          · obtain rfl := List.mem_singleton.mp hy
            exact ⟨lt_lett (by omega), rfl⟩
        · exact (hw7.call h5 b5).upd gG
      · obtain ⟨zs, hG, hzl, hzs, hw7⟩ := hh
        obtain ⟨jl, jn⟩ := join_ab zs hzs
        have y1 : Yn (lett d4.toNat ++ Txt.join "" zs) := by
          refine ⟨?_, ?_, lt_app (lt_lett (by omega)) jl⟩
          · rw [len_app, jn, hzl, len_lett]
            omega
          · rw [len_app, jn, hzl, len_lett]
            omega
        have s1 := sum_ones zs fun y hy => (hzs y hy).2
        refine ⟨_, _, zs, rfl, rfl, .inl (SqL.of hG), ?_, _, _, rfl, rfl, ?_, ?_⟩
        · rw [s1, hzl]
          have : ("" : Str).length = 0 := by decide +kernel
          rw [this]
          omega
        · rw [jn, hzl]
          have : (lett d4.toNat).length + z.toNat ≤ 8 := by
            rw [len_lett]
            omega
          exact Nat.le_trans this (by decide)
        have hw8 := hw7.mono (B' := bb + 40 * i + 10) (by omega)
        have d4n : d4.toNat < 26 := by omega
        dsimp only [gName]
        refine seqJ (fun σ' H' => ∃ y : Str, σ' = [some (.ref c), some (.int many), some (.str abc), some (.ref D), some (.int (0 + (i : Int))), some (.int z), some (.int d4), some (.str y), o8, none, none] ∧ Yn y ∧ Wd H H' c D (bb + 40 * i + 12) ys) (fun σ' H8 hJ => ?_) (fun go => ?_)
        · obtain ⟨y, rfl, hy, hw9⟩ := hJ
          -- the spare words
          have iz : (0 + (i : Int)) = (i : Int) := Int.zero_add _
          refine ⟨26, rfl, by decide, by decide, fun S nS => ?_⟩
          have gS := hw9.gone nS
          refine lc_range (lo := 0) (n := 26) (fun j H' => H' S = some (.lst (((List.range j).map fun t => lett ((d4.toNat + t) % 26) ++ lett i).map V.str)) ∧ Wd H H' c D (bb + 40 * i + 12) ys) ⟨upd_same, hw9.upd gS⟩ (fun j H' hj hh => ⟨rfl, ?_⟩) (fun H' hh => ?_)
          · obtain ⟨hS, hwe⟩ := hh
            have m0 : 0 ≤ (d4 + (0 + (j : Int))) % 26 := Int.emod_nonneg _ (by decide)
            have m1 : (d4 + (0 + (j : Int))) % 26 < 26 := Int.emod_lt_of_pos _ (by decide)
            have m2 : ((d4 + (0 + (j : Int))) % 26).toNat = (d4.toNat + j) % 26 := by omega
            refine ⟨_, rfl, _, rfl, _, rfl, d4, _, rfl, rfl, _, _, rfl, rfl, (show (0 : Int) < 26 by decide), abc, _, _, rfl, rfl, abc_len, abc_at m0 m1, ?_⟩
            refine ⟨_, rfl, _, rfl, abc, (0 + (i : Int)), _, rfl, rfl, abc_len, abc_at (by omega) (by omega), _, _, rfl, rfl, ?_, _, hS, ?_, ?_, hwe.upd gS⟩
            · show 1 + 1 ≤ sizeLine
              decide
            · rw [List.length_map, List.length_map, List.length_range]
              exact Nat.lt_trans hj (by decide)
            · rw [upd_same, List.range_succ, List.map_append, List.map_append, m2]
              have : (0 + (i : Int)).toNat = i := by omega
              rw [this]
              rfl
          · obtain ⟨hS, hwe⟩ := hh
            have hS' : H' S = some (.lst ((spare d4.toNat i).map V.str)) := hS
            refine ⟨_, rfl, .inl ⟨rfl, _, SqL.of hwe.2.2.2⟩, _, rfl, _, rfl, D, _, rfl, .inl (SqL.of hwe.2.2.2), rfl, LK.flat_strs ys, _, rfl, ?_⟩
            have yl : (ys.map V.str).length < sizeLine := by
              rw [List.length_map, hl]
              exact Nat.lt_of_lt_of_le (by omega : i < 100) (by decide)
            show if (!inV (.str y) (ys.map V.str)) = true then _ else _
            rw [inV_str]
            by_cases hin : y ∈ ys
            · rw [decide_eq_true hin]
              refine LK.ifF rfl ?_
              refine ⟨_, rfl, S, rfl, ⟨_, SqL.of hS'⟩, fun G2 nG2 => ?_⟩
              have gG2 := hwe.gone nG2
              have sG2 : S ≠ G2 := ne_of_none hS' nG2
              refine lc_list (K := K) (a := S) (xs := (spare d4.toNat i).map V.str) (fun j H' => H' G2 = some (.lst ((((spare d4.toNat i).take j).filter fun w => decide (w ∉ ys)).map V.str)) ∧ H' S = some (.lst ((spare d4.toNat i).map V.str)) ∧ Wd H H' c D (bb + 40 * i + 12) ys)
                ⟨upd_same, by rw [upd_ne sG2]; exact hS', hwe.upd gG2⟩ (fun j H' hj hh => SqL.of hh.2.1) (fun j x H' hx hh => ⟨rfl, ?_⟩) (fun H' hh => ?_)
              · obtain ⟨h1, h2, h3⟩ := hh
                rw [List.getElem?_map] at hx
                obtain ⟨w1, hw1, rfl⟩ := Option.map_eq_some_iff.mp hx
                refine ⟨_, rfl, _, rfl, D, _, rfl, .inl (SqL.of h3.2.2.2), rfl, LK.flat_strs ys, _, rfl, ?_⟩
                show if (!inV (.str w1) (ys.map V.str)) = true then _ else _
                have tk : (spare d4.toNat i).take (j + 1) = (spare d4.toNat i).take j ++ [w1] := by
                  rw [List.take_succ, hw1]
                  rfl
                rw [inV_str, tk, List.filter_append]
                by_cases hin1 : w1 ∈ ys
                · rw [decide_eq_true hin1]
                  refine LK.ifF rfl ⟨?_, h2, h3⟩
                  rw [h1]
                  simp [hin1]
                · rw [decide_eq_false hin1]
                  refine LK.ifT rfl ⟨_, rfl, _, h1, ?_, ?_, ?_, h3.upd gG2⟩
                  · rw [List.length_map]
                    have z1 := List.length_filter_le (fun w => decide (w ∉ ys)) ((spare d4.toNat i).take j)
                    have z2 : ((spare d4.toNat i).take j).length ≤ 26 := by
                      rw [List.length_take]
                      have : (spare d4.toNat i).length = 26 := by rw [spare, List.length_map, List.length_range]
                      omega
                    exact Nat.lt_of_le_of_lt (Nat.le_trans z1 z2) (by decide)
                  · rw [upd_same]
                    simp [hin1]
                  · rw [upd_ne sG2]
                    exact h2
              · obtain ⟨h1, h2, h3⟩ := hh
                have full : (spare d4.toNat i).take ((spare d4.toNat i).map V.str).length = spare d4.toNat i := by
                  rw [List.length_map, List.take_length]
                rw [full] at h1
                have fr := spare_free (s := d4.toNat) (k := i) d4n ys (by omega)
                obtain ⟨w1, ws, hws⟩ : ∃ w1 ws, (spare d4.toNat i).filter (fun w => decide (w ∉ ys)) = w1 :: ws := by
                  cases e : (spare d4.toNat i).filter (fun w => decide (w ∉ ys)) with
                  | nil => exact absurd e fr
                  | cons a b => exact ⟨a, b, rfl⟩
                have wm : w1 ∈ spare d4.toNat i := (List.mem_filter.mp (hws ▸ List.mem_cons_self .. : w1 ∈ (spare d4.toNat i).filter (fun w => decide (w ∉ ys)))).1
                rw [hws] at h1
                refine ⟨G2, _, 0, _, rfl, rfl, SqL.of h1, atI_nat (j := 0) rfl, D, _, _, rfl, rfl, h3.2.2.2, yl, ys ++ [w1], _, _, _, _, _, rfl, ?_, ?_, (h3.app nD w1).mono (by omega)⟩
                · rw [List.length_append, hl]
                  rfl
                · intro q hq
                  rcases List.mem_append.mp hq with hq | hq
                  · exact hn q hq
                  · obtain rfl := List.mem_singleton.mp hq
                    exact spare_yn (by omega) wm
            · rw [decide_eq_false hin]
              refine LK.ifT rfl ⟨_, rfl, D, _, _, rfl, rfl, hwe.2.2.2, yl, ys ++ [y], _, _, _, _, _, rfl, ?_, ?_, (hwe.app nD y).mono (by omega)⟩
              · rw [List.length_append, hl]
                rfl
              · intro q hq
                rcases List.mem_append.mp hq with hq | hq
                · exact hn q hq
                · obtain rfl := List.mem_singleton.mp hq
                  exact hy
        · refine ⟨_, rfl, (by show 0 ≤ sizeLine; decide), fun E1 nE => ?_⟩
          have hwa := hw8.new (o := .lst []) nE
          refine ⟨.list (ys.map PyData.str), .list [], .lst (SqL.of hwa.2.2.2) (dp_strs ys), .lst (SqL.of upd_same) .nil, sh_strs fun y hy => (hn y hy).2.2, by decide, _, rfl, ?_⟩
          rw [eqv_nil]
          by_cases em : ys = []
          · subst em
            refine LK.ifF rfl (LK.ifF rfl ?_)
            exact go _ _ ⟨_, rfl, y1, hwa.mono (by omega)⟩
          refine LK.ifT (by cases ys with | nil => exact absurd rfl em | cons _ _ => rfl) ?_
          refine ⟨_, rfl, c, 3, _, rfl, by decide, by decide, hwa.2.1, by omega, fun d6 H6 d60 d61 h6 b6 n6 => ⟨rfl, _, rfl, ?_⟩⟩
          have hwb := hwa.call h6 b6
          by_cases e0 : V.int d6 = V.int 0
          · refine LK.ifT (decide_eq_true e0) ?_
            obtain ⟨y0, hy0, at0⟩ := at_last em
            obtain ⟨q1, q2, q3⟩ := hn y0 hy0
            have sz : sizeLine ≥ 100 := by decide
            have c7 := cut_seven y0
            have c8 := cut_last q2
            have a1 := yn_one d4.toNat d4n c7 (lt_cut q3 none (some 7))
            have a2 := yn_one d4.toNat d4n c8 (lt_cut q3 none (some (-1)))
            refine ⟨_, rfl, 1, rfl, D, _, -1, _, rfl, rfl, SqL.of hwb.2.2.2, at0, 7, rfl, y0, rfl, by omega, ?_⟩
            refine ⟨_, rfl, _, rfl, abc, d4, _, rfl, rfl, abc_len, abc_at d40 d41, _, _, rfl, rfl, ?_, ?_⟩
            · show (cutS y0 none (some 7)).length + 1 ≤ sizeLine
              omega
            refine ⟨_, rfl, 1, rfl, D, _, -1, _, rfl, rfl, SqL.of hwb.2.2.2, at0, 1, rfl, _, rfl, y0, rfl, by omega, ?_⟩
            refine ⟨_, rfl, _, rfl, abc, d4, _, rfl, rfl, abc_len, abc_at d40 d41, _, _, rfl, rfl, ?_, ?_⟩
            · show (cutS y0 none (some (-1))).length + 1 ≤ sizeLine
              omega
            refine ⟨(by show 2 ≤ sizeLine; decide), fun L2 nL2 => ?_⟩
            have hwc := hwb.new (o := .lst [.str (cutS y0 none (some 7) ++ lett d4.toNat), .str (cutS y0 none (some (-1)) ++ lett d4.toNat)]) nL2
            refine ⟨_, rfl, c, 2, _, rfl, by decide, by decide, hwc.2.1, by omega, fun d7 H7 d70 d71 h7 b7 n7 => ?_⟩
            have hwd := hwc.call h7 b7
            have hL2 := b7 _ _ (hwb.2.1.fresh nL2).symm (upd_same (H := H6) (o := .lst [.str (cutS y0 none (some 7) ++ lett d4.toNat), .str (cutS y0 none (some (-1)) ++ lett d4.toNat)]))
            obtain rfl | rfl : d7 = 0 ∨ d7 = 1 := by omega
            · exact ⟨L2, _, 0, _, rfl, rfl, SqL.of hL2, rfl, go _ _ ⟨_, rfl, a1, hwd.mono (by omega)⟩⟩
            · exact ⟨L2, _, 1, _, rfl, rfl, SqL.of hL2, rfl, go _ _ ⟨_, rfl, a2, hwd.mono (by omega)⟩⟩
          · refine LK.ifF (decide_eq_false e0) ?_
            exact go _ _ ⟨_, rfl, y1, hwb.mono (by omega)⟩
    · obtain ⟨ys, o4, o5, o6, o7, o8, rfl, hl, hn, hw⟩ := hI
      exact ⟨_, rfl, k D H1 ys nD (hw.2.1.mono (by omega)) hw.2.2.1 hw.2.2.2 hl hn⟩
end
end X6
namespace X6
open PySem PySem.Spec PyProof.Rows L2 LK
abbrev sAny : Stmt := top 31
/-- what is no list stays -/
def Tk (H H' : Hp) : Prop := ∀ b o, (∀ xs, o ≠ .lst xs) → H b = some o → H' b = some o
theorem Tk.bt {c : Addr} {H H' : Hp} {B : Nat} (h : CR H c B) (b : Bt c H H') : Tk H H' := fun x o no e => b x o (h.ne e no) e
theorem Tk.same {H H' : Hp} (s : Same H H') : Tk H H' := fun x o _ e => s x o e
theorem Tk.own {H : Hp} {p : Addr} {xs : List V} {o : HO} (h : H p = some (.lst xs)) : Tk H (upd H p o) := fun x u no e => by
  rw [upd_ne (ne_of e h (no _))]
  exact e
theorem Tk.trans {H H1 H2 : Hp} (a : Tk H H1) (b : Tk H1 H2) : Tk H H2 := fun x o n e => b x o n (a x o n e)
theorem sqT_tk {K : PySem.W.Frag} {H H' : Hp} {a : Addr} {xs : List V} (e : Tk H H') (h : SqT K H a xs) : SqT K H' a xs := by
  rcases h with (h | ⟨o, h⟩) | h
  · exact .inl (.inl (e _ _ (fun _ q => by cases q) h))
  · exact .inl (.inr ⟨o, e _ _ (fun _ q => by cases q) h⟩)
  · exact .inr h
theorem dp_tk_ints {K : PySem.W.Frag} {H H' : Hp} : ∀ {xs : List V} {ns : List Int}, DpAll K H xs (ns.map PyData.int) → DpAll K H' xs (ns.map PyData.int)
  | _, [], .nil => .nil
  | _, n :: r, .cons (.int _) t => .cons (.int _) (dp_tk_ints t)
theorem dp_ints_of {K : PySem.W.Frag} {H : Hp} : ∀ ns : List Int, DpAll K H (ns.map V.int) (ns.map PyData.int)
  | [] => .nil
  | n :: r => .cons (.int n) (dp_ints_of r)
theorem lp_tk {K : PySem.W.Frag} {H H' : Hp} (e : Tk H H') {x : V} {l : Lp} (h : Dp K H x (lpD l)) : Dp K H' x (lpD l) := by
  cases h with
  | tup s a =>
    cases a with
    | cons d1 a =>
      cases d1
      cases a with
      | cons d2 dn =>
        cases dn
        cases d2 with
        | tup s2 a2 => exact .tup (sqT_tk e s) (.cons (.str _) (.cons (.tup (sqT_tk e s2) (dp_tk_ints a2)) .nil))
theorem lps_tk {K : PySem.W.Frag} {H H' : Hp} (e : Tk H H') : ∀ {xs : List V} {ls : List Lp}, DpAll K H xs (ls.map lpD) → DpAll K H' xs (ls.map lpD)
  | _, [], .nil => .nil
  | _, _ :: _, .cons a r => .cons (lp_tk e a) (lps_tk e r)
/-- the loops under way: the list at L -/
def Wa (K : PySem.W.Frag) (H Hn : Hp) (c L : Addr) (B : Nat) (ls : List Lp) (xs : List V) : Prop := c ≠ L ∧ CR Hn c B ∧ Bt c H Hn ∧ Hn L = some (.lst xs) ∧ DpAll K Hn xs (ls.map lpD)
theorem Wa.call {K : PySem.W.Frag} {H Hn H' : Hp} {c L : Addr} {B : Nat} {ls : List Lp} {xs : List V} (h : Wa K H Hn c L B ls xs) (h1 : CR H' c (B + 1)) (bt : Bt c Hn H') : Wa K H H' c L (B + 1) ls xs :=
  ⟨h.1, h1, h.2.2.1.trans bt, bt _ _ h.1.symm h.2.2.2.1, lps_tk (Tk.bt h.2.1 bt) h.2.2.2.2⟩
theorem Wa.new {K : PySem.W.Frag} {H Hn : Hp} {c L p : Addr} {B : Nat} {ls : List Lp} {xs : List V} {o : HO} (h : Wa K H Hn c L B ls xs) (np : Hn p = none) : Wa K H (upd Hn p o) c L B ls xs :=
  ⟨h.1, h.2.1.same (same_new np), h.2.2.1.trans (Bt.of (same_new np)), same_new np _ _ h.2.2.2.1, lps_tk (Tk.same (same_new np)) h.2.2.2.2⟩
theorem Wa.same {K : PySem.W.Frag} {H Hn H' : Hp} {c L : Addr} {B : Nat} {ls : List Lp} {xs : List V} (h : Wa K H Hn c L B ls xs) (s : Same Hn H') : Wa K H H' c L B ls xs :=
  ⟨h.1, h.2.1.same s, h.2.2.1.trans (Bt.of s), s _ _ h.2.2.2.1, lps_tk (Tk.same s) h.2.2.2.2⟩
theorem Wa.gone {K : PySem.W.Frag} {H Hn : Hp} {c L p : Addr} {B : Nat} {ls : List Lp} {xs : List V} (h : Wa K H Hn c L B ls xs) (np : Hn p = none) : H p = none ∧ p ≠ c ∧ p ≠ L := by
  have pc : p ≠ c := (h.2.1.fresh np).symm
  refine ⟨?_, pc, (ne_of_none h.2.2.2.1 np).symm⟩
  cases e : H p with
  | none => rfl
  | some o => rw [h.2.2.1 p o pc e] at np; cases np
theorem Wa.own {K : PySem.W.Frag} {H Hn : Hp} {c L p : Addr} {B : Nat} {ls : List Lp} {xs zs : List V} {o : HO} (h : Wa K H Hn c L B ls xs) (g : H p = none ∧ p ≠ c ∧ p ≠ L) (e : Hn p = some (.lst zs)) : Wa K H (upd Hn p o) c L B ls xs :=
  ⟨h.1, h.2.1.upd g.2.1, fun b u n e' => by rw [upd_ne (ne_of_none e' g.1)]; exact h.2.2.1 b u n e', by rw [upd_ne g.2.2.symm]; exact h.2.2.2.1, lps_tk (Tk.own e) h.2.2.2.2⟩
theorem Wa.mono {K : PySem.W.Frag} {H Hn : Hp} {c L : Addr} {B B' : Nat} {ls : List Lp} {xs : List V} (h : Wa K H Hn c L B ls xs) (l : B ≤ B') : Wa K H Hn c L B' ls xs := ⟨h.1, h.2.1.mono l, h.2.2⟩
theorem Wa.app {K : PySem.W.Frag} {H Hn : Hp} {c L : Addr} {B : Nat} {ls : List Lp} {xs : List V} {x : V} {l : Lp} (h : Wa K H Hn c L B ls xs) (nL : H L = none) (d : Dp K Hn x (lpD l)) : Wa K H (upd Hn L (.lst (xs ++ [x]))) c L B (ls ++ [l]) (xs ++ [x]) :=
  ⟨h.1, h.2.1.upd h.1.symm, fun b u n e => by rw [upd_ne (ne_of_none e nL)]; exact h.2.2.1 b u n e, upd_same, by
    rw [List.map_append]
    exact dps_app (lps_tk (Tk.own h.2.2.2.1) h.2.2.2.2) (.cons (lp_tk (Tk.own h.2.2.2.1) d) .nil)⟩
/-- loops as they may stand: threads of ys, parents ahead, ascending -/
def OkLs (ys : List Str) (ls : List Lp) : Prop := ∀ (k : Nat) (l : Lp), ls[k]? = some l → l.1 ∈ ys ∧ l.2.Pairwise (· < ·) ∧ l.2.length ≤ 5 ∧ ∀ p ∈ l.2, 0 ≤ p ∧ p < (k : Int)
def OkFs (n : Nat) (fs : List Int) : Prop := fs.Nodup ∧ ∀ x ∈ fs, 0 ≤ x ∧ x < (n : Int)
theorem okls_app {ys : List Str} {ls : List Lp} {l : Lp} (h : OkLs ys ls) (h1 : l.1 ∈ ys) (h2 : l.2.Pairwise (· < ·)) (h3 : l.2.length ≤ 5) (h4 : ∀ p ∈ l.2, 0 ≤ p ∧ p < (ls.length : Int)) : OkLs ys (ls ++ [l]) := by
  intro k m e
  rw [List.getElem?_append] at e
  split at e
  · exact h k m e
  · rename_i hk
    have : k - ls.length = 0 := by
      cases hq : k - ls.length with
      | zero => rfl
      | succ q => rw [hq] at e; simp at e
    rw [this] at e
    obtain rfl : l = m := by simpa using e
    have hk2 : k = ls.length := by omega
    subst hk2
    exact ⟨h1, h2, h3, h4⟩
theorem sh_ints (ns : List Int) : SeqAt.shaped (.list (ns.map PyData.int)) = true := by
  have h : ∀ ns : List Int, PyData.canLayAll0 (ns.map PyData.int) = true ∧ PyData.depthAll (ns.map PyData.int) = 0 := by
    intro ns
    induction ns with
    | nil => exact ⟨rfl, rfl⟩
    | cons n r ih =>
      constructor
      · rw [List.map_cons, PyData.canLayAll0, ih.1]
        rfl
      · simp only [List.map_cons, PyData.depthAll, PyData.depth, ih.2]
        rfl
  obtain ⟨a, b⟩ := h ns
  refine shaped_of (by simpa only [PyData.canLay0] using a) ?_
  simp only [PyData.depth, b]
  decide
theorem eqv_nili (ns : List Int) : PyData.eqv (.list (ns.map PyData.int)) (.list []) = ns.isEmpty := by
  cases ns with
  | nil => rfl
  | cons y r => rfl
theorem pick8 {k : Int} (k0 : 0 ≤ k) (k1 : k < 8) : ∃ z : Int, 0 ≤ z ∧ z ≤ 5 ∧ atI [V.int 0, .int 1, .int 1, .int 1, .int 2, .int 2, .int 3, .int 5] k = some (.int z) := by
  obtain rfl | rfl | rfl | rfl | rfl | rfl | rfl | rfl : k = 0 ∨ k = 1 ∨ k = 2 ∨ k = 3 ∨ k = 4 ∨ k = 5 ∨ k = 6 ∨ k = 7 := by omega
  all_goals exact ⟨_, by decide, by decide, rfl⟩
section
variable {P : Program} {w : World} {K : PySem.W.Frag} {mg : Str → Option Value} {base : Heap}
theorem eqDq {X : Cx} {K : PySem.W.Frag} (hu : X.A.units + 64 < cLine) (e : X.K = K := by rfl) : OpR X (compareOp .Eq) (rEqD K) := e ▸ op_eqD hu
theorem scAny : FnScope ["creel", "most", "yarns", "loops_here", "k", "many", "near", "picked", "turn", "spot", "childless", "fast_here", "inner"] ["creel", "most", "yarns"] (defScope sAny) := ⟨rfl, rfl, rfl, by decide +kernel, rfl, by decide +kernel, by decide +kernel⟩
def spAny (K : PySem.W.Frag) : Sp := fun vs H Q _ => ∃ (c ya : Addr) (most B : Nat) (ys : List Str), vs = [.ref c, .int most, .ref ya] ∧ most ≤ 1000 ∧ CR H c B ∧ B + 20000 < 10 ^ 12 ∧ Ys H ya ys ∧ ys ≠ [] ∧ ys.length ≤ 1000 ∧
  ∀ (t L G : Addr) (H' : Hp) (ls : List Lp) (xs : List V) (fs : List Int), H L = none → H G = none → L ≠ G → H' t = some (.tup [.ref L, .ref G]) → H' L = some (.lst xs) → DpAll K H' xs (ls.map lpD) → H' G = some (.lst (fs.map V.int)) → CR H' c (B + 20000) → Bt c H H' → ls.length ≤ most → OkLs ys ls → OkFs ls.length fs → Q (.ref t) H'
theorem ok_any {f fp fk : Addr} {fd fdp fdk : FuncData} (F : Fun K "_law_any_cloth" "_law_any_cloth" sAny f fd) (Fp : Fun K "_law_ply" "_law_ply" sPly fp fdp) (Fk : Fun K "_law_kids" "_law_kids" sKids fk fdk) (B : Bl mg) (gp : mg "_law_ply" = some (.ref fp)) (gk : mg "_law_kids" = some (.ref fk)) (bp : Binds K fdp ["creel", "span"] []) (bk : Binds K fdk ["loops_here", "spot"] []) (Gp : FnOk P w K mg base CX0 1 fp fdp ["creel", "span"] spPly) (Gk : FnOk P w K mg base CX0 1 fk fdk ["loops_here", "spot"] (spKids K)) :
    FnOk P w K mg base CX0 2 f fd ["creel", "most", "yarns"] (spAny K) := by
  refine F.ok scAny (fun vs H Q E h => ?_) (fun cdv A outer s H vs Q E hr h => ?_)
  · obtain ⟨c, ya, most, bb, ys, rfl, _⟩ := h
    rfl
  · obtain ⟨c, ya, most, bb, ys, rfl, hm, hc, hB, hy, hne, hyl, k⟩ := h
    refine ⟨_, pss_cons (ps_set (i := 3) scAny.nd rfl (Or.inr rfl) (pe_lst pa_nil))
      (pss_cons (ps_for PassesOwn.never rfl (pi_range1 (by rfl) (B "range" (by decide)) (pa_cons (pe_call (E := E0) Gp (hr.mono (by decide)) rfl gp Fp.kp bp .nil pass0 (pa_cons (pv 0) (pa_cons (pe_op op_add (pv 1) pe_int) pa_nil))) pa_nil)) (pg_name (i := 4) scAny.nd rfl (Or.inl rfl)) (pss_cons (ps_set (i := 5) scAny.nd rfl (Or.inl rfl) (pe_callB (call_min2 rfl) (by rfl) (B "min" (by decide)) (by decide +kernel) (pa_cons (pv 4) (pa_cons (pe_ix ix_list (pe_lst (pa_cons pe_int (pa_cons pe_int (pa_cons pe_int (pa_cons pe_int (pa_cons pe_int (pa_cons pe_int (pa_cons pe_int (pa_cons pe_int pa_nil))))))))) (pe_call (E := E0) Gp (hr.mono (by decide)) rfl gp Fp.kp bp .nil pass0 (pa_cons (pv 0) (pa_cons pe_int pa_nil))) (fun _ _ => rfl)) pa_nil))))
      (pss_cons (ps_par (i := 6) (j := 7) rfl scAny.nd rfl rfl (by decide) rfl rfl (pa_cons (pe_cmpR op_gt (pe_call (E := E0) Gp (hr.mono (by decide)) rfl gp Fp.kp bp .nil pass0 (pa_cons (pv 0) (pa_cons pe_int pa_nil))) pe_int (nomark _)) (pa_cons (pe_lst pa_nil) pa_nil)) (by rfl))
      (pss_cons (ps_for PassesOwn.never rfl (pi_range1 (by rfl) (B "range" (by decide)) (pa_cons (pv 5) pa_nil)) (pg_name (i := 8) scAny.nd rfl (Or.inl rfl)) (pss_cons (ps_set (i := 9) scAny.nd rfl (Or.inl rfl) (pe_ifExp (pt_val (pv 6)) (pe_op op_sub (pe_op op_sub (pv 4) pe_int) (pe_call (E := E0) Gp (hr.mono (by decide)) rfl gp Fp.kp bp .nil pass0 (pa_cons (pv 0) (pa_cons (pe_callB (call_min2 rfl) (by rfl) (B "min" (by decide)) (by decide +kernel) (pa_cons (pv 4) (pa_cons pe_int pa_nil))) pa_nil)))) (pe_call (E := E0) Gp (hr.mono (by decide)) rfl gp Fp.kp bp .nil pass0 (pa_cons (pv 0) (pa_cons (pv 4) pa_nil)))))
      (pss_one (ps_if (pt_cmpR op_notIn_seq (pv 9) (pv 7) (by rfl)) (pss_one (ps_expr (pe_bm PySem.F.plainAttrs_list PySem.F.slot_list_append PySem.F.type_list_append mt_append (pv 7) (pa_cons (pv 9) pa_nil)))) pss_nil))))
      (pss_one (ps_expr (pe_bm PySem.F.plainAttrs_list PySem.F.slot_list_append PySem.F.type_list_append mt_append (pv 3) (pa_cons (pe_tup (pa_cons (pe_ix ix_list (pv 2) (pe_call (E := E0) Gp (hr.mono (by decide)) rfl gp Fp.kp bp .nil pass0 (pa_cons (pv 0) (pa_cons (pe_callB call_len_seq (by rfl) (B "len" (by decide)) (by decide +kernel) (pa_cons (pv 2) pa_nil)) pa_nil))) (fun _ _ => rfl)) (pa_cons (pe_callTy call_tuple_of (by rfl) (B "tuple" (by decide)) (by decide +kernel) (pa_cons (pe_callB cr_sorted (by rfl) (B "sorted" (by decide)) (by decide +kernel) (pa_cons (pv 7) pa_nil)) pa_nil)) pa_nil))) pa_nil))))))))
      (pss_cons (ps_set (i := 10) scAny.nd rfl (Or.inr rfl) (pe_lc (own := [("k", 4)]) (g := gName 4) rfl scAny.nd (pi_range1 (by rfl) (B "range" (by decide)) (pa_cons (pe_callB call_len_seq (by rfl) (B "len" (by decide)) (by decide +kernel) (pa_cons (pv 3) pa_nil)) pa_nil)) (blkOk_by (N := ["creel", "most", "yarns", "loops_here", "k", "many", "near", "picked", "turn", "spot", "childless", "fast_here", "inner"]) (sc := defScope sAny) (by decide +kernel)) (fun _ _ _ _ _ => pg_name (i := 4) scAny.nd rfl (Or.inl rfl)) (fun _ _ _ _ _ => pts_one (pt_cmpR (eqDq (K := K) hr.units) (pe_call (E := E0) Gk (hr.mono (by decide)) rfl gk Fk.kp bk .nil pass0 (pa_cons (pv 3) (pa_cons (pv 4) pa_nil))) (pe_lst pa_nil) (nomark _))) (fun _ _ _ _ _ => pv 4)))
      (pss_cons (ps_setLc (i := 11) (own := [("k", 4)]) (g := gName 4) rfl scAny.nd rfl rfl (sw_true rfl rfl rfl (by decide +kernel)) (pi_list (pv 10)) (blkOk_by (N := ["creel", "most", "yarns", "loops_here", "k", "many", "near", "picked", "turn", "spot", "childless", "fast_here", "inner"]) (sc := defScope sAny) (by decide +kernel)) (fun _ _ _ _ _ => pg_name (i := 4) scAny.nd rfl (Or.inl rfl)) (fun _ _ _ _ _ => pts_one (pt_cmpR op_gt (pe_call (E := E0) Gp (hr.mono (by decide)) rfl gp Fp.kp bp .nil pass0 (pa_cons (pv 0) (pa_cons pe_int pa_nil))) pe_int (nomark _))) (fun _ _ _ _ _ => pv 4))
      (pss_cons (ps_setLc (i := 12) (own := [("k", 4)]) (g := gName 4) rfl scAny.nd rfl rfl (sw_true rfl rfl rfl (by decide +kernel)) (pi_range1 (by rfl) (B "range" (by decide)) (pa_cons (pe_callB call_len_seq (by rfl) (B "len" (by decide)) (by decide +kernel) (pa_cons (pv 3) pa_nil)) pa_nil)) (blkOk_by (N := ["creel", "most", "yarns", "loops_here", "k", "many", "near", "picked", "turn", "spot", "childless", "fast_here", "inner"]) (sc := defScope sAny) (by decide +kernel)) (fun _ _ _ _ _ => pg_name (i := 4) scAny.nd rfl (Or.inl rfl)) (fun _ _ _ _ _ => pts_one (pt_cmpR (ninq (K := K)) (pv 4) (pv 10) (by rfl))) (fun _ _ _ _ _ => pv 4))
      (pss_one (ps_ret (pe_tup (pa_cons (pv 3) (pa_cons (pe_op op_cat (pv 11) (pe_lc (own := [("k", 4)]) (g := gName 4) rfl scAny.nd (pi_list (pv 12)) (blkOk_by (N := ["creel", "most", "yarns", "loops_here", "k", "many", "near", "picked", "turn", "spot", "childless", "fast_here", "inner"]) (sc := defScope sAny) (by decide +kernel)) (fun _ _ _ _ _ => pg_name (i := 4) scAny.nd rfl (Or.inl rfl)) (fun _ _ _ _ _ => pts_one (pt_cmpR op_eq (pe_call (E := E0) Gp (hr.mono (by decide)) rfl gp Fp.kp bp .nil pass0 (pa_cons (pv 0) (pa_cons pe_int pa_nil))) pe_int (nomark _))) (fun _ _ _ _ _ => pv 4))) pa_nil))))))))), ?_⟩
    have cy : ya ≠ c := by
      intro e
      subst e
      obtain ⟨_, _, _, e, _⟩ := hc
      rw [Ys, e] at hy
      cases ys with
      | nil => exact hne rfl
      | cons a r => simp at hy
    refine ⟨(by show 0 ≤ sizeLine; decide), fun L nL => ?_⟩
    have cL : c ≠ L := hc.fresh nL
    have w0 : Wa K H (upd H L (.lst [])) c L bb [] [] := ⟨cL, hc.upd cL.symm, Bt.of (same_new nL), upd_same, .nil⟩
    refine ⟨_, rfl, _, rfl, _, _, rfl, rfl, c, _, bb, rfl, by omega, by omega, w0.2.1, by omega, fun d0 H1 d00 d01 h1 b1 n1 => ?_⟩
    have w1 := w0.call h1 b1
    refine ⟨d0, rfl, by omega, by omega, ?_⟩
    refine for_range (lo := 0) (n := d0.toNat) (fun i σ H' => ∃ (ls : List Lp) (xs : List V) (o4 o5 o6 o7 o8 o9 : Option V), σ = [some (.ref c), some (.int most), some (.ref ya), some (.ref L), o4, o5, o6, o7, o8, o9, none, none, none] ∧ ls.length = i ∧ OkLs ys ls ∧ Wa K H H' c L (bb + 1 + 10 * i) ls xs)
      ⟨[], [], _, _, _, _, _, _, rfl, rfl, fun k l e => by simp at e, w1⟩ (fun i σ H2 hi hI => ?_) (fun σ H2 hI => ?_)
    · obtain ⟨ls, xs, o4, o5, o6, o7, o8, o9, rfl, hl, ok, hw⟩ := hI
      have yaH : ∀ Hn B ls xs, Wa K H Hn c L B ls xs → Ys Hn ya ys := fun Hn B ls xs h => h.2.2.1 _ _ cy hy
      refine ⟨_, rfl, (by show 8 ≤ sizeLine; decide), fun T8 nT8 => ?_⟩
      have hw1 := hw.new (o := .lst [.int 0, .int 1, .int 1, .int 1, .int 2, .int 2, .int 3, .int 5]) nT8
      refine ⟨_, rfl, c, 8, _, rfl, by decide, by decide, hw1.2.1, by omega, fun d1 H3 d10 d11 h3 b3 n3 => ?_⟩
      have hw2 := hw1.call h3 b3
      have hT8 : H3 T8 = some (.lst [.int 0, .int 1, .int 1, .int 1, .int 2, .int 2, .int 3, .int 5]) := b3 _ _ (hw.2.1.fresh nT8).symm upd_same
      obtain ⟨m0, m00, m01, hm0⟩ := pick8 d10 d11
      refine ⟨T8, _, _, _, rfl, rfl, SqL.of hT8, hm0, _, _, rfl, ?_⟩
      obtain ⟨z, hz, z0, z1, z2⟩ : ∃ z : Int, (if m0 < 0 + (i : Int) then m0 else 0 + (i : Int)) = z ∧ 0 ≤ z ∧ z ≤ 5 ∧ z ≤ i := by
        refine ⟨_, rfl, ?_, ?_, ?_⟩ <;> (split <;> omega)
      rw [hz]
      refine ⟨_, rfl, c, 3, _, rfl, by decide, by decide, hw2.2.1, by omega, fun d2 H4 d20 d21 h4 b4 n4 => ?_⟩
      have hw3 := hw2.call h4 b4
      refine ⟨_, _, rfl, rfl, (by show 0 ≤ sizeLine; decide), fun Pk nPk => ⟨_, _, rfl, ?_⟩⟩
      have hw4 := hw3.new (o := .lst []) nPk
      have gP := hw3.gone nPk
      refine ⟨_, rfl, z, rfl, by omega, by omega, ?_⟩
      refine for_range (lo := 0) (n := z.toNat) (fun j σ H' => ∃ (ps : List Int) (o8 o9 : Option V), σ = [some (.ref c), some (.int most), some (.ref ya), some (.ref L), some (.int (0 + (i : Int))), some (.int z), some (.bl (decide (0 < d2))), some (.ref Pk), o8, o9, none, none, none] ∧ H' Pk = some (.lst (ps.map V.int)) ∧ ps.length ≤ j ∧ ps.Nodup ∧ (∀ p ∈ ps, 0 ≤ p ∧ p < (i : Int)) ∧ Wa K H H' c L (bb + 1 + 10 * i + 2 + j) ls xs)
        ⟨[], _, _, rfl, upd_same, Nat.zero_le _, List.nodup_nil, fun p h => absurd h List.not_mem_nil, hw4⟩ (fun j σ H5 hj hJ => ?_) (fun σ H5 hJ => ?_)
      · obtain ⟨ps, o8, o9, rfl, hP, pl, pn, pp, hw5⟩ := hJ
        have i0 : (0 : Int) < i := by omega
        have ap : ∀ (spot : Int) (H6 : Hp), 0 ≤ spot → spot < (i : Int) → H6 Pk = some (.lst (ps.map V.int)) → Wa K H H6 c L (bb + 1 + 10 * i + 2 + (j + 1)) ls xs → spot ∉ ps → (H6 Pk = some (.lst (ps.map V.int)) ∧ (ps.map V.int).length < sizeLine) ∧ ∃ (ps' : List Int), upd H6 Pk (.lst (ps.map V.int ++ [V.int spot])) Pk = some (.lst (ps'.map V.int)) ∧ ps'.length ≤ j + 1 ∧ ps'.Nodup ∧ (∀ p ∈ ps', 0 ≤ p ∧ p < (i : Int)) ∧ Wa K H (upd H6 Pk (.lst (ps.map V.int ++ [V.int spot]))) c L (bb + 1 + 10 * i + 2 + (j + 1)) ls xs := by
          intro spot H6 s0 s1 e6 w6 nin
          refine ⟨⟨e6, ?_⟩, ps ++ [spot], ?_, ?_, ?_, ?_, w6.own gP e6⟩
          · rw [List.length_map]
            exact Nat.lt_of_lt_of_le (by omega : ps.length < 100) (by decide)
          · rw [upd_same, List.map_append]
            rfl
          · rw [List.length_append]
            simp only [List.length_singleton]
            omega
          · exact List.nodup_append.mpr ⟨pn, by simp, fun a ha b hb e => by obtain rfl := List.mem_singleton.mp hb; exact nin (e ▸ ha)⟩
          · intro p hp
            rcases List.mem_append.mp hp with hp | hp
            · exact pp p hp
            · obtain rfl := List.mem_singleton.mp hp
              exact ⟨s0, s1⟩
        refine ⟨_, rfl, decide (0 < d2), rfl, ?_⟩
        by_cases near : 0 < d2
        · refine LK.ifT (decide_eq_true near) ?_
          refine ⟨_, rfl, _, _, rfl, rfl, _, rfl, _, rfl, _, _, rfl, ?_⟩
          obtain ⟨sp, hsp, sp0, sp1, sp2⟩ : ∃ sp : Int, (if 6 < 0 + (i : Int) then 6 else 0 + (i : Int)) = sp ∧ 0 < sp ∧ sp ≤ 6 ∧ sp ≤ i := by
            refine ⟨_, rfl, ?_, ?_, ?_⟩ <;> (split <;> omega)
          rw [hsp]
          refine ⟨c, sp, _, rfl, sp0, by omega, hw5.2.1, by omega, fun d3 H6 d30 d31 h6 b6 n6 => ?_⟩
          have hw6 := hw5.call h6 b6
          have e6 := b6 _ _ gP.2.1 hP
          refine ⟨_, _, rfl, rfl, _, rfl, _, rfl, Pk, _, rfl, .inl (SqL.of e6), rfl, flat_ints ps, _, rfl, ?_⟩
          show if (!inV (.int (0 + (i : Int) - 1 - d3)) (ps.map V.int)) = true then _ else _
          rw [inV_int]
          by_cases hin : (0 + (i : Int) - 1 - d3) ∈ ps
          · rw [decide_eq_true hin]
            exact LK.ifF rfl ⟨ps, _, _, rfl, e6, by omega, pn, pp, hw6⟩
          · rw [decide_eq_false hin]
            obtain ⟨⟨q1, q2⟩, ps', q3, q4, q5, q6, q7⟩ := ap (0 + (i : Int) - 1 - d3) H6 (by omega) (by omega) e6 hw6 hin
            exact LK.ifT rfl ⟨_, rfl, .inl ⟨rfl, _, SqL.of e6⟩, _, rfl, Pk, _, _, rfl, rfl, q1, q2, ps', _, _, rfl, q3, q4, q5, q6, q7⟩
        · refine LK.ifF (decide_eq_false near) ?_
          refine ⟨_, rfl, _, rfl, c, _, _, rfl, by omega, by omega, hw5.2.1, by omega, fun d3 H6 d30 d31 h6 b6 n6 => ?_⟩
          have hw6 := hw5.call h6 b6
          have e6 := b6 _ _ gP.2.1 hP
          refine ⟨_, rfl, _, rfl, Pk, _, rfl, .inl (SqL.of e6), rfl, flat_ints ps, _, rfl, ?_⟩
          show if (!inV (.int (d3)) (ps.map V.int)) = true then _ else _
          rw [inV_int]
          by_cases hin : (d3) ∈ ps
          · rw [decide_eq_true hin]
            exact LK.ifF rfl ⟨ps, _, _, rfl, e6, by omega, pn, pp, hw6⟩
          · rw [decide_eq_false hin]
            obtain ⟨⟨q1, q2⟩, ps', q3, q4, q5, q6, q7⟩ := ap (d3) H6 (by omega) (by omega) e6 hw6 hin
            exact LK.ifT rfl ⟨_, rfl, .inl ⟨rfl, _, SqL.of e6⟩, _, rfl, Pk, _, _, rfl, rfl, q1, q2, ps', _, _, rfl, q3, q4, q5, q6, q7⟩
      · obtain ⟨ps, o8, o9, rfl, hP, pl, pn, pp, hw5⟩ := hJ
        have ya5 := yaH _ _ _ _ hw5
        refine ⟨_, rfl, .inl ⟨rfl, _, SqL.of hw5.2.2.2.1⟩, ?_⟩
        have y0 : 0 < ys.length := List.length_pos_iff.mpr hne
        refine ⟨_, rfl, _, rfl, _, rfl, ya, _, rfl, .inl (SqL.of ya5), ?_⟩
        rw [List.length_map]
        refine ⟨c, _, _, rfl, by omega, by omega, hw5.2.1, by omega, fun d3 H6 d30 d31 h6 b6 n6 => ?_⟩
        have hw6 := hw5.call h6 b6
        have e6 := b6 _ _ gP.2.1 hP
        obtain ⟨y, hyy⟩ : ∃ y, ys[d3.toNat]? = some y := ⟨ys[d3.toNat]'(by omega), List.getElem?_eq_getElem (by omega)⟩
        have at3 : atI (ys.map V.str) d3 = some (.str y) := by
          have := atI_nat (xs := ys.map V.str) (j := d3.toNat) (v := .str y) (by rw [List.getElem?_map, hyy]; rfl)
          rwa [show ((d3.toNat : Nat) : Int) = d3 by omega] at this
        refine ⟨ya, _, _, _, rfl, rfl, SqL.of (yaH _ _ _ _ hw6), at3, ?_⟩
        refine ⟨_, rfl, Pk, ps, rfl, SqL.of e6, by omega, fun ps' Sp perm pw nSp => ?_⟩
        have hw7 := hw6.new (o := .lst (ps'.map V.int)) nSp
        refine ⟨Sp, _, rfl, .inl ⟨SqL.of upd_same, fun Tp nTp => ?_⟩⟩
        have hw8 := hw7.new (o := .tup (ps'.map V.int)) nTp
        refine ⟨(by show 2 ≤ sizeLine; decide), fun Tl nTl => ?_⟩
        have hw9 := hw8.new (o := .tup [.str y, .ref Tp]) nTl
        have eTp := same_new (o := .tup [.str y, .ref Tp]) nTl _ _ (upd_same (H := upd H6 Sp (.lst (ps'.map V.int))) (a := Tp) (o := .tup (ps'.map V.int)))
        have dl : Dp K _ (.ref Tl) (lpD (y, ps')) := .tup (.inl (.inl (upd_same (o := .tup [.str y, .ref Tp])))) (.cons (.str y) (.cons (.tup (.inl (.inl eTp)) (dp_ints_of ps')) .nil))
        have xl : xs.length = i := by
          rw [dps_len hw5.2.2.2.2, List.length_map, hl]
        refine ⟨L, xs, .ref Tl, rfl, rfl, hw9.2.2.2.1, ?_, ls ++ [(y, ps')], xs ++ [.ref Tl], _, _, _, _, _, _, rfl, ?_, ?_, (hw9.app nL dl).mono (by omega)⟩
        · rw [xl]
          exact Nat.lt_of_lt_of_le (by omega : i < 2000) (by decide)
        · rw [List.length_append, hl]
          rfl
        · refine okls_app ok (List.mem_of_getElem? hyy) ?_ ?_ fun p hp => ?_
          · have nd : ps'.Nodup := perm.symm.nodup pn
            exact (List.Pairwise.and pw nd).imp fun h => by omega
          · show ps'.length ≤ 5
            rw [perm.length_eq]
            omega
          · rw [hl]
            exact pp p (perm.mem_iff.mp hp)
    · obtain ⟨ls, xs, o4, o5, o6, o7, o8, o9, rfl, hl, ok, hw⟩ := hI
      have xl : xs.length = ls.length := by rw [dps_len hw.2.2.2.2, List.length_map]
      have ln : ls.length ≤ 1000 := by omega
      refine ⟨_, rfl, L, xs, rfl, .inl (SqL.of hw.2.2.2.1), _, rfl, by omega, by omega, fun C1 nC1 => ?_⟩
      have gC := hw.gone nC1
      refine lc_range (lo := 0) (n := xs.length) (fun j H' => H' C1 = some (.lst ((((List.range j).filter fun k : Nat => (kidsOf ls (0 + (k : Int))).isEmpty).map fun k : Nat => V.int (k : Int)))) ∧ Wa K H H' c L (bb + 1 + 10 * d0.toNat) ls xs)
        ⟨upd_same, (hw.new nC1)⟩ (fun j H3 hj hh => ⟨rfl, ?_⟩) (fun H3 hh => ?_)
      · obtain ⟨hC, hw1⟩ := hh
        refine ⟨_, rfl, _, rfl, L, _, xs, ls, rfl, SqL.of hw1.2.2.2.1, hw1.2.2.2.2, by omega, fun H4 kp nkp s4 e4 => ?_⟩
        have hw2 := hw1.same s4
        refine ⟨(by show 0 ≤ sizeLine; decide), fun e0 ne0 => ?_⟩
        have hw3 := hw2.new (o := .lst []) ne0
        have e5 := same_new (o := .lst []) ne0 _ _ e4
        have km : ((kidsOf ls (0 + (j : Int))).map fun k : Nat => V.int (k : Int)) = ((kidsOf ls (0 + (j : Int))).map fun k : Nat => (k : Int)).map V.int := by
          rw [List.map_map]
          rfl
        rw [km] at e5
        refine ⟨.list (((kidsOf ls (0 + (j : Int))).map fun k : Nat => (k : Int)).map PyData.int), .list [], .lst (SqL.of e5) (dp_ints_of _), .lst (SqL.of upd_same) .nil, sh_ints _, by decide, _, rfl, ?_⟩
        have hC1 := same_new (o := .lst []) ne0 _ _ (s4 _ _ hC)
        rw [eqv_nili, List.isEmpty_map, filt_more]
        by_cases em : (kidsOf ls (0 + (j : Int))).isEmpty = true
        · refine LK.ifT em ⟨_, rfl, _, hC1, ?_, ?_, hw3.own gC hC1⟩
          · rw [List.length_map]
            exact Nat.lt_of_le_of_lt (List.length_filter_le _ _) (by rw [List.length_range]; exact Nat.lt_of_lt_of_le (by omega : j < 2000) (by decide))
          · rw [upd_same, if_pos em, List.map_append]
            show some (HO.lst (_ ++ [V.int (0 + (j : Int))])) = some (HO.lst (_ ++ [V.int (j : Int)]))
            rw [Int.zero_add]
        · refine LK.ifF (by simpa using em) ⟨?_, hw3⟩
          rw [hC1, if_neg em, List.append_nil]
      · obtain ⟨hC, hw1⟩ := hh
        generalize hcl : ((List.range xs.length).filter fun k : Nat => (kidsOf ls (0 + (k : Int))).isEmpty) = cl at hC
        have cln : cl.length ≤ 1000 := by
          rw [← hcl]
          refine Nat.le_trans (List.length_filter_le _ _) ?_
          rw [List.length_range]
          omega
        -- the fast ones
        refine ⟨_, rfl, C1, rfl, ⟨_, SqL.of hC⟩, fun F1 nF1 => ?_⟩
        have gF := hw1.gone nF1
        have CF : C1 ≠ F1 := ne_of_none hC nF1
        refine lc_list (K := K) (a := C1) (xs := cl.map fun k : Nat => V.int (k : Int)) (fun j H' => ∃ f1 : List Nat, H' F1 = some (.lst (f1.map fun k : Nat => V.int (k : Int))) ∧ f1.Sublist (cl.take j) ∧ H' C1 = some (.lst (cl.map fun k : Nat => V.int (k : Int))) ∧ Wa K H H' c L (bb + 1 + 10 * d0.toNat + j) ls xs)
          ⟨[], upd_same, List.nil_sublist _, by rw [upd_ne CF]; exact hC, hw1.new nF1⟩ (fun j H' hj hh => SqL.of hh.choose_spec.2.2.1) (fun j x H4 hx hh => ⟨rfl, ?_⟩) (fun H4 hh => ?_)
        · obtain ⟨f1, hF, sl, hC4, hw2⟩ := hh
          rw [List.getElem?_map] at hx
          obtain ⟨q, hq, rfl⟩ := Option.map_eq_some_iff.mp hx
          have jl : j < cl.length := (List.getElem?_eq_some_iff.mp hq).1
          have tk : cl.take (j + 1) = cl.take j ++ [q] := by
            rw [List.take_succ, hq]
            rfl
          refine ⟨_, rfl, c, 4, _, rfl, by decide, by decide, hw2.2.1, by omega, fun d H5 d0' d1' h5 b5 n5 => ⟨_, _, rfl, rfl, _, rfl, ?_⟩⟩
          have hw3 := hw2.call h5 b5
          have hF5 := b5 _ _ gF.2.1 hF
          have hC5 := b5 _ _ gC.2.1 hC4
          by_cases big : 0 < d
          · refine LK.ifT (decide_eq_true big) ⟨_, rfl, _, hF5, ?_, f1 ++ [q], ?_, ?_, ?_, hw3.own gF hF5⟩
            · rw [List.length_map]
              have := sl.length_le
              rw [List.length_take] at this
              exact Nat.lt_of_lt_of_le (by omega : f1.length < 2000) (by decide)
            · rw [upd_same, List.map_append]
              rfl
            · rw [tk]
              exact sl.append (List.Sublist.refl _)
            · rw [upd_ne CF]
              exact hC5
          · refine LK.ifF (decide_eq_false big) ⟨f1, hF5, ?_, hC5, hw3⟩
            rw [tk]
            exact sl.trans (List.sublist_append_left _ _)
        · obtain ⟨f1, hF, sl, hC4, hw2⟩ := hh
          rw [List.length_map] at hw2 sl
          rw [List.take_length] at sl
          -- the inner ones
          refine ⟨_, rfl, L, xs, rfl, .inl (SqL.of hw2.2.2.2.1), _, rfl, by omega, by omega, fun I1 nI1 => ?_⟩
          have gI := hw2.gone nI1
          have CI : C1 ≠ I1 := ne_of_none hC4 nI1
          have FI : F1 ≠ I1 := ne_of_none hF nI1
          refine lc_range (lo := 0) (n := xs.length) (fun j H' => H' I1 = some (.lst (((List.range j).filter fun k : Nat => decide (k ∉ cl)).map fun k : Nat => V.int (k : Int))) ∧ H' C1 = some (.lst (cl.map fun k : Nat => V.int (k : Int))) ∧ H' F1 = some (.lst (f1.map fun k : Nat => V.int (k : Int))) ∧ Wa K H H' c L (bb + 1 + 10 * d0.toNat + cl.length) ls xs)
            ⟨upd_same, by rw [upd_ne CI]; exact hC4, by rw [upd_ne FI]; exact hF, hw2.new nI1⟩ (fun j H5 hj hh => ⟨rfl, ?_⟩) (fun H5 hh => ?_)
          · obtain ⟨hI, hC5, hF5, hw3⟩ := hh
            have cm : (cl.map fun k : Nat => V.int (k : Int)) = (cl.map fun k : Nat => (k : Int)).map V.int := by
              rw [List.map_map]
              rfl
            have mem : (0 + (j : Int)) ∈ (cl.map fun k : Nat => (k : Int)) ↔ j ∈ cl := by
              constructor
              · intro h
                obtain ⟨q, hq, e⟩ := List.mem_map.mp h
                obtain rfl : q = j := by omega
                exact hq
              · intro h
                exact List.mem_map.mpr ⟨j, h, (Int.zero_add _).symm⟩
            refine ⟨_, rfl, _, rfl, C1, _, rfl, .inl (SqL.of hC5), rfl, by rw [cm]; exact flat_ints _, _, rfl, ?_⟩
            show if (!inV (.int (0 + (j : Int))) (cl.map fun k : Nat => V.int (k : Int))) = true then _ else _
            rw [cm, inV_int, filt_more]
            by_cases jc : j ∈ cl
            · rw [decide_eq_true (mem.mpr jc)]
              refine LK.ifF rfl ⟨?_, by rw [← cm]; exact hC5, hF5, hw3⟩
              rw [hI]
              simp [jc]
            · rw [decide_eq_false (fun h => jc (mem.mp h))]
              refine LK.ifT rfl ⟨_, rfl, _, hI, ?_, ?_, ?_, ?_, hw3.own gI hI⟩
              · rw [List.length_map]
                exact Nat.lt_of_le_of_lt (List.length_filter_le _ _) (by rw [List.length_range]; exact Nat.lt_of_lt_of_le (by omega : j < 2000) (by decide))
              · rw [upd_same, if_pos (decide_eq_true jc), List.map_append]
                show some (HO.lst (_ ++ [V.int (0 + (j : Int))])) = some (HO.lst (_ ++ [V.int (j : Int)]))
                rw [Int.zero_add]
              · rw [upd_ne CI, ← cm]
                exact hC5
              · rw [upd_ne FI]
                exact hF5
          · obtain ⟨hI, hC5, hF5, hw3⟩ := hh
            generalize hil : ((List.range xs.length).filter fun k : Nat => decide (k ∉ cl)) = il at hI
            have iln : il.length ≤ 1000 := by
              rw [← hil]
              refine Nat.le_trans (List.length_filter_le _ _) ?_
              rw [List.length_range]
              omega
            refine ⟨_, rfl, _, rfl, _, rfl, I1, rfl, ⟨_, SqL.of hI⟩, fun G1 nG1 => ?_⟩
            have gG := hw3.gone nG1
            have FG : F1 ≠ G1 := ne_of_none hF5 nG1
            have IG : I1 ≠ G1 := ne_of_none hI nG1
            refine lc_list (K := K) (a := I1) (xs := il.map fun k : Nat => V.int (k : Int)) (fun j H' => ∃ f2 : List Nat, H' G1 = some (.lst (f2.map fun k : Nat => V.int (k : Int))) ∧ f2.Sublist (il.take j) ∧ H' I1 = some (.lst (il.map fun k : Nat => V.int (k : Int))) ∧ H' F1 = some (.lst (f1.map fun k : Nat => V.int (k : Int))) ∧ Wa K H H' c L (bb + 1 + 10 * d0.toNat + cl.length + j) ls xs)
              ⟨[], upd_same, List.nil_sublist _, by rw [upd_ne IG]; exact hI, by rw [upd_ne FG]; exact hF5, hw3.new nG1⟩ (fun j H' hj hh => SqL.of hh.choose_spec.2.2.1) (fun j x H6 hx hh => ⟨rfl, ?_⟩) (fun H6 hh => ?_)
            · obtain ⟨f2, hG, sl2, hI6, hF6, hw4⟩ := hh
              rw [List.getElem?_map] at hx
              obtain ⟨q, hq, rfl⟩ := Option.map_eq_some_iff.mp hx
              have jl : j < il.length := (List.getElem?_eq_some_iff.mp hq).1
              have tk : il.take (j + 1) = il.take j ++ [q] := by
                rw [List.take_succ, hq]
                rfl
              refine ⟨_, rfl, c, 9, _, rfl, by decide, by decide, hw4.2.1, by omega, fun d H7 d0' d1' h7 b7 n7 => ⟨rfl, _, rfl, ?_⟩⟩
              have hw5 := hw4.call h7 b7
              have hG7 := b7 _ _ gG.2.1 hG
              have hI7 := b7 _ _ gI.2.1 hI6
              have hF7 := b7 _ _ gF.2.1 hF6
              by_cases big : V.int d = V.int 0
              · refine LK.ifT (decide_eq_true big) ⟨_, rfl, _, hG7, ?_, f2 ++ [q], ?_, ?_, ?_, ?_, hw5.own gG hG7⟩
                · rw [List.length_map]
                  have := sl2.length_le
                  rw [List.length_take] at this
                  exact Nat.lt_of_lt_of_le (by omega : f2.length < 2000) (by decide)
                · rw [upd_same, List.map_append]
                  rfl
                · rw [tk]
                  exact sl2.append (List.Sublist.refl _)
                · rw [upd_ne IG]
                  exact hI7
                · rw [upd_ne FG]
                  exact hF7
              · refine LK.ifF (decide_eq_false big) ⟨f2, hG7, ?_, hI7, hF7, hw5⟩
                rw [tk]
                exact sl2.trans (List.sublist_append_left _ _)
            · obtain ⟨f2, hG, sl2, hI6, hF6, hw4⟩ := hh
              rw [List.length_map] at hw4 sl2
              rw [List.take_length] at sl2
              have l1 := sl.length_le
              have l2 := sl2.length_le
              refine ⟨F1, G1, _, _, rfl, rfl, hF6, hG, ?_, fun R nR => ⟨(by show 2 ≤ sizeLine; decide), fun Tt nTt => ?_⟩⟩
              · rw [List.length_map, List.length_map]
                exact Nat.le_of_lt (Nat.lt_of_lt_of_le (by omega : f1.length + f2.length < 3000) (by decide))
              have gR := hw4.gone nR
              have hw5 := hw4.new (o := .lst ((f1.map fun k : Nat => V.int (k : Int)) ++ f2.map fun k : Nat => V.int (k : Int))) nR
              have hw6 := hw5.new (o := .tup [.ref L, .ref R]) nTt
              have hR : upd (upd H6 R (.lst ((f1.map fun k : Nat => V.int (k : Int)) ++ f2.map fun k : Nat => V.int (k : Int)))) Tt (.tup [.ref L, .ref R]) R = some (.lst (((f1 ++ f2).map fun k : Nat => (k : Int)).map V.int)) := by
                rw [same_new nTt _ _ upd_same, List.map_map, List.map_append]
                rfl
              refine k Tt L R _ ls xs _ nL gR.1 gR.2.2.symm upd_same hw6.2.2.2.1 hw6.2.2.2.2 hR (hw6.2.1.mono (by omega)) hw6.2.2.1 (by omega) ok ⟨?_, fun x hx => ?_⟩
              · have nr : (List.range xs.length).Nodup := List.nodup_range
                have n1 : cl.Nodup := by
                  rw [← hcl]
                  exact nr.filter _
                have n2 : il.Nodup := by
                  rw [← hil]
                  exact nr.filter _
                have nd : (f1 ++ f2).Nodup := List.nodup_append.mpr ⟨n1.sublist sl, n2.sublist sl2, fun a ha b hb e => by
                  subst e
                  have a1 := sl.subset ha
                  have a2 := sl2.subset hb
                  rw [← hil] at a2
                  exact absurd a1 (of_decide_eq_true (List.mem_filter.mp a2).2)⟩
                exact List.Pairwise.map _ (fun a b h => by omega) nd
              · obtain ⟨q, hq, rfl⟩ := List.mem_map.mp hx
                have : q ∈ List.range xs.length := by
                  rcases List.mem_append.mp hq with hq | hq
                  · have := sl.subset hq
                    rw [← hcl] at this
                    exact (List.mem_filter.mp this).1
                  · have := sl2.subset hq
                    rw [← hil] at this
                    exact (List.mem_filter.mp this).1
                rw [List.mem_range] at this
                omega
end
end X6
/-! A row of a work, as a function of data. -/
namespace X6
open PySem PySem.Spec PyProof.Rows L2 LK
inductive Sti
  | pas
  | crs
  | chn
  | st (j k : Nat)
def stiD : Sti → PyData
  | .pas => .str "pass"
  | .crs => .str "cross"
  | .chn => .str "chain"
  | .st j k => .tuple [.int (j : Nat), .int (k : Nat)]
/-- a row under way: the loops, the tied ones, those done, those left, the link -/
structure Sw where
  ls : List Lp
  ti : List Int
  dn : List Int
  lf : List Int
  lk : Option Int
def srt (xs : List Int) : List Int := xs.mergeSort (fun a b => decide (a ≤ b))
theorem srt_perm (xs : List Int) : (srt xs).Perm xs := List.mergeSort_perm xs _
theorem srt_pw (xs : List Int) : (srt xs).Pairwise (· ≤ ·) := by
  have h := List.pairwise_mergeSort (le := fun a b : Int => decide (a ≤ b)) (fun a b c h1 h2 => by simp at *; omega) (fun a b => by simp; omega) xs
  exact h.imp fun h => by simpa using h
theorem srt_of {ms xs : List Int} (p : ms.Perm xs) (w : ms.Pairwise (· ≤ ·)) : ms = srt xs :=
  List.Perm.eq_of_pairwise (le := (· ≤ ·)) (fun a b _ _ h1 h2 => Int.le_antisymm h1 h2) w (srt_pw xs) (p.trans (srt_perm xs).symm)
theorem srt_lt {xs : List Int} (nd : xs.Nodup) : (srt xs).Pairwise (· < ·) := by
  have h := List.pairwise_and_iff.mpr ⟨srt_pw xs, (srt_perm xs).nodup_iff.mpr nd⟩
  exact h.imp fun ⟨a, b⟩ => by omega
def needOf : Sti → Nat
  | .crs => 2
  | .pas => 1
  | .chn => 1
  | .st j _ => j
/-- k new loops of one thread through the same ones -/
def knit (y : Str) (ps : List Int) : Nat → List Lp × List Int → List Lp × List Int
  | 0, s => s
  | k + 1, s => ((knit y ps k s).1 ++ [(y, ps)], (knit y ps k s).2 ++ [((knit y ps k s).1.length : Int)])
def doneS (y : Str) (q : Sti) (s : Sw) : Sw := match q with
  | .crs => { s with lf := (s.lf.take 2).reverse ++ s.lf.drop 2, lk := none }
  | .pas => { s with dn := s.dn ++ s.lf.take 1, lf := s.lf.drop 1, lk := none }
  | .chn => { s with ls := s.ls ++ [(y, srt (s.lf.take 1 ++ s.lk.toList))], dn := (match s.lk with | none => s.dn | some _ => s.dn.dropLast) ++ [(s.ls.length : Int)], lf := s.lf.drop 1, lk := some s.ls.length }
  | .st j k => { ls := (knit y (srt (s.lf.take j)) k (s.ls, s.dn)).1, dn := (knit y (srt (s.lf.take j)) k (s.ls, s.dn)).2, ti := if k = 0 then s.ti ++ s.lf.take j else s.ti, lf := s.lf.drop j, lk := none }
def stepS (y : Str) (q : Sti) (s : Sw) : Option Sw := if s.lf.length < needOf q then none else some (doneS y q s)
def rowS (y : Str) : List Sti → Sw → Option Sw
  | [], s => some s
  | q :: r, s => (stepS y q s).bind (rowS y r)
theorem rowS_app (y : Str) : ∀ (a b : List Sti) (s : Sw), rowS y (a ++ b) s = (rowS y a s).bind (rowS y b)
  | [], b, s => rfl
  | q :: r, b, s => by
    show (stepS y q s).bind (rowS y (r ++ b)) = ((stepS y q s).bind (rowS y r)).bind (rowS y b)
    cases stepS y q s with
    | none => rfl
    | some s' => exact rowS_app y r b s'
theorem rowS_succ {y : Str} {qs : List Sti} {i : Nat} {q : Sti} {s s' : Sw} (h : rowS y (qs.take i) s = some s') (hq : qs[i]? = some q) : rowS y (qs.take (i + 1)) s = stepS y q s' := by
  rw [List.take_add_one, hq, Option.toList_some, rowS_app, h]
  show (stepS y q s').bind (rowS y []) = stepS y q s'
  cases stepS y q s' <;> rfl
/-- the state between rows: loops, tied ones, the needle -/
abbrev St3 := List Lp × List Int × List Int
def rowD (y : Str) (qs : List Sti) (st : St3) : Option St3 := match rowS y qs ⟨st.1, st.2.1, [], st.2.2, none⟩ with
  | some s => if s.lf = [] then some (s.ls, s.ti, s.dn) else none
  | none => none
theorem rowS_fail {y : Str} {qs : List Sti} {i : Nat} {s : Sw} (h : rowS y (qs.take i) s = none) : rowS y qs s = none := by
  rw [← List.take_append_drop i qs, rowS_app, h]
  rfl
/-- what holds throughout -/
structure OkS (ys : List Str) (s : Sw) : Prop where
  ls : OkLs ys s.ls
  nd : (s.ti ++ (s.dn ++ s.lf)).Nodup
  rg : ∀ x ∈ s.ti ++ (s.dn ++ s.lf), 0 ≤ x ∧ x < (s.ls.length : Int)
  lk : ∀ v, s.lk = some v → v ∉ s.lf ∧ 0 ≤ v ∧ v < (s.ls.length : Int) ∧ ∃ d, s.dn = d ++ [v]
structure OkT (ys : List Str) (st : St3) : Prop where
  ls : OkLs ys st.1
  nd : (st.2.1 ++ st.2.2).Nodup
  rg : ∀ x ∈ st.2.1 ++ st.2.2, 0 ≤ x ∧ x < (st.1.length : Int)
theorem OkT.start {ys : List Str} {st : St3} (h : OkT ys st) : OkS ys ⟨st.1, st.2.1, [], st.2.2, none⟩ :=
  ⟨h.ls, by simpa using h.nd, by simpa using h.rg, fun v e => by cases e⟩
def smallQ : Sti → Prop
  | .st j k => j ≤ 3 ∧ k ≤ 3
  | _ => True
theorem knit_len (y : Str) (ps : List Int) : ∀ (k : Nat) (s : List Lp × List Int), (knit y ps k s).1.length = s.1.length + k
  | 0, s => rfl
  | k + 1, s => by
    show ((knit y ps k s).1 ++ [(y, ps)]).length = _
    rw [List.length_append, knit_len y ps k s]
    simp
    omega
theorem knit_dn (y : Str) (ps : List Int) : ∀ (k : Nat) (s : List Lp × List Int), (knit y ps k s).2 = s.2 ++ (List.range k).map (fun i : Nat => ((s.1.length + i : Nat) : Int))
  | 0, s => by simp [knit]
  | k + 1, s => by
    show (knit y ps k s).2 ++ [((knit y ps k s).1.length : Int)] = _
    rw [knit_dn y ps k s, knit_len, List.range_succ, List.map_append, List.append_assoc]
    rfl
theorem knit_ok {ys : List Str} {y : Str} {ps : List Int} (hy : y ∈ ys) (hw : ps.Pairwise (· < ·)) (hl : ps.length ≤ 5) : ∀ (k : Nat) (s : List Lp × List Int), OkLs ys s.1 → (∀ p ∈ ps, 0 ≤ p ∧ p < (s.1.length : Int)) → OkLs ys (knit y ps k s).1
  | 0, s, h, _ => h
  | k + 1, s, h, hp => by
    refine okls_app (knit_ok hy hw hl k s h hp) hy hw hl fun p m => ?_
    have := hp p m
    rw [knit_len]
    omega
theorem OkS.step {ys : List Str} {y : Str} {q : Sti} {s s' : Sw} (h : OkS ys s) (hy : y ∈ ys) (sm : smallQ q) (e : stepS y q s = some s') : OkS ys s' := by
  unfold stepS at e
  split at e
  · cases e
  rename_i enough
  have e' : doneS y q s = s' := Option.some.inj e
  have nl : needOf q ≤ s.lf.length := by omega
  subst e'
  have mem : ∀ {x : Int}, x ∈ s.lf → 0 ≤ x ∧ x < (s.ls.length : Int) := fun hx => h.rg _ (List.mem_append_right _ (List.mem_append_right _ hx))
  have memd : ∀ {x : Int}, x ∈ s.dn → 0 ≤ x ∧ x < (s.ls.length : Int) := fun hx => h.rg _ (List.mem_append_right _ (List.mem_append_left _ hx))
  have memt : ∀ {x : Int}, x ∈ s.ti → 0 ≤ x ∧ x < (s.ls.length : Int) := fun hx => h.rg _ (List.mem_append_left _ hx)
  have ndl : s.lf.Nodup := (List.nodup_append.mp (List.nodup_append.mp h.nd).2.1).2.1
  cases q with
  | crs =>
    have pm : ((s.lf.take 2).reverse ++ s.lf.drop 2).Perm s.lf := ((List.reverse_perm _).append_right _).trans (by rw [List.take_append_drop])
    have all : (s.ti ++ (s.dn ++ ((s.lf.take 2).reverse ++ s.lf.drop 2))).Perm (s.ti ++ (s.dn ++ s.lf)) := (pm.append_left _).append_left _
    exact ⟨h.ls, all.nodup_iff.mpr h.nd, fun x hx => h.rg x (all.mem_iff.mp hx), fun v e => by cases e⟩
  | pas =>
    have all : s.ti ++ ((s.dn ++ s.lf.take 1) ++ s.lf.drop 1) = s.ti ++ (s.dn ++ s.lf) := by rw [List.append_assoc, List.take_append_drop]
    exact ⟨h.ls, by show (s.ti ++ ((s.dn ++ s.lf.take 1) ++ s.lf.drop 1)).Nodup; rw [all]; exact h.nd, fun x hx => h.rg x (all ▸ hx), fun v e => by cases e⟩
  | chn =>
    have n1 : 1 ≤ s.lf.length := nl
    have thr : (s.lf.take 1 ++ s.lk.toList).Nodup := by
      cases e : s.lk with
      | none => simpa using ndl.sublist (List.take_sublist 1 s.lf)
      | some v =>
        refine List.nodup_append.mpr ⟨ndl.sublist (List.take_sublist 1 s.lf), by simp, fun a ha b hb => ?_⟩
        have hb' : b = v := by simpa using hb
        subst hb'
        exact fun z => (h.lk b e).1 (z ▸ List.mem_of_mem_take ha)
    have thrR : ∀ p ∈ srt (s.lf.take 1 ++ s.lk.toList), 0 ≤ p ∧ p < (s.ls.length : Int) := fun p hp => by
      rcases List.mem_append.mp ((srt_perm _).mem_iff.mp hp) with z | z
      · exact mem (List.mem_of_mem_take z)
      · cases e : s.lk with
        | none => rw [e] at z; simp at z
        | some v =>
          rw [e] at z
          obtain rfl : p = v := by simpa using z
          exact ⟨(h.lk p e).2.1, (h.lk p e).2.2.1⟩
    have thrL : (srt (s.lf.take 1 ++ s.lk.toList)).length ≤ 5 := by
      rw [(srt_perm _).length_eq, List.length_append, List.length_take]
      cases s.lk <;> simp <;> omega
    have fresh : ∀ x ∈ s.ti ++ (s.dn ++ s.lf), x ≠ (s.ls.length : Int) := fun x hx => by
      have := h.rg x hx
      omega
    obtain ⟨d0, hd0⟩ : ∃ d0, (match s.lk with | none => s.dn | some _ => s.dn.dropLast) = d0 := ⟨_, rfl⟩
    have sub0 : d0.Sublist s.dn := by
      rw [← hd0]
      cases s.lk with
      | none => exact List.Sublist.refl _
      | some v => exact List.dropLast_sublist _
    have sub : (s.ti ++ (d0 ++ s.lf.drop 1)).Sublist (s.ti ++ (s.dn ++ s.lf)) := (List.Sublist.refl _).append (sub0.append (List.drop_sublist 1 s.lf))
    have pm : (s.ti ++ ((d0 ++ [(s.ls.length : Int)]) ++ s.lf.drop 1)).Perm ((s.ls.length : Int) :: (s.ti ++ (d0 ++ s.lf.drop 1))) := by
      rw [List.append_assoc, List.singleton_append]
      exact (List.perm_middle.append_left _).trans List.perm_middle
    refine ⟨okls_app h.ls hy (srt_lt thr) thrL thrR, ?_, ?_, ?_⟩
    · show (s.ti ++ (((match s.lk with | none => s.dn | some _ => s.dn.dropLast) ++ [(s.ls.length : Int)]) ++ s.lf.drop 1)).Nodup
      rw [hd0]
      exact pm.nodup_iff.mpr (List.nodup_cons.mpr ⟨fun hx => fresh _ (sub.subset hx) rfl, h.nd.sublist sub⟩)
    · intro x hx
      have hx' : x ∈ s.ti ++ (((match s.lk with | none => s.dn | some _ => s.dn.dropLast) ++ [(s.ls.length : Int)]) ++ s.lf.drop 1) := hx
      rw [hd0] at hx'
      show 0 ≤ x ∧ x < ((s.ls ++ [_]).length : Int)
      rw [List.length_append]
      rcases List.mem_cons.mp (pm.mem_iff.mp hx') with z | z
      · subst z
        simp
        omega
      · have := h.rg x (sub.subset z)
        simp
        omega
    · intro v e
      obtain rfl : (s.ls.length : Int) = v := Option.some.inj e
      refine ⟨fun hx => ?_, by omega, ?_, ⟨_, rfl⟩⟩
      · have := mem (List.mem_of_mem_drop hx)
        omega
      · show (s.ls.length : Int) < ((s.ls ++ [_]).length : Int)
        rw [List.length_append]
        simp
        omega
  | st j k =>
    have psn : (s.lf.take j).Nodup := ndl.sublist (List.take_sublist j s.lf)
    have psr : ∀ p ∈ srt (s.lf.take j), 0 ≤ p ∧ p < (s.ls.length : Int) := fun p hp => mem (List.mem_of_mem_take ((srt_perm _).mem_iff.mp hp))
    have psl : (srt (s.lf.take j)).length ≤ 5 := by
      rw [(srt_perm _).length_eq, List.length_take]
      have := sm.1
      omega
    have len := knit_len y (srt (s.lf.take j)) k (s.ls, s.dn)
    have dn := knit_dn y (srt (s.lf.take j)) k (s.ls, s.dn)
    have new : ∀ x ∈ (List.range k).map (fun i : Nat => ((s.ls.length + i : Nat) : Int)), (s.ls.length : Int) ≤ x ∧ x < ((s.ls.length + k : Nat) : Int) := fun x hx => by
      obtain ⟨i, hi, rfl⟩ := List.mem_map.mp hx
      have := List.mem_range.mp hi
      omega
    have newN : ((List.range k).map (fun i : Nat => ((s.ls.length + i : Nat) : Int))).Nodup := by
      refine List.Pairwise.map _ (fun a b (hab : a ≠ b) => ?_) List.nodup_range
      omega
    obtain ⟨T, hT⟩ : ∃ T, (if k = 0 then s.ti ++ s.lf.take j else s.ti) = T := ⟨_, rfl⟩
    have old : (T ++ (s.dn ++ s.lf.drop j)).Nodup ∧ ∀ x ∈ T ++ (s.dn ++ s.lf.drop j), 0 ≤ x ∧ x < (s.ls.length : Int) := by
      have pm0 : ((s.ti ++ s.lf.take j) ++ (s.dn ++ s.lf.drop j)).Perm (s.ti ++ (s.dn ++ s.lf)) := by
        rw [List.append_assoc]
        refine List.Perm.append_left _ ?_
        rw [← List.append_assoc]
        refine (List.perm_append_comm.append_right _).trans ?_
        rw [List.append_assoc, List.take_append_drop]
      by_cases z : k = 0
      · rw [if_pos z] at hT
        subst hT
        exact ⟨pm0.nodup_iff.mpr h.nd, fun x hx => h.rg x (pm0.mem_iff.mp hx)⟩
      · rw [if_neg z] at hT
        subst hT
        have sub : (s.ti ++ (s.dn ++ s.lf.drop j)).Sublist (s.ti ++ (s.dn ++ s.lf)) := (List.Sublist.refl _).append ((List.Sublist.refl _).append (List.drop_sublist j s.lf))
        exact ⟨h.nd.sublist sub, fun x hx => h.rg x (sub.subset hx)⟩
    have pm : (T ++ ((s.dn ++ (List.range k).map (fun i : Nat => ((s.ls.length + i : Nat) : Int))) ++ s.lf.drop j)).Perm ((List.range k).map (fun i : Nat => ((s.ls.length + i : Nat) : Int)) ++ (T ++ (s.dn ++ s.lf.drop j))) := by
      rw [List.append_assoc]
      refine (List.Perm.append_left _ ?_).trans (?_ : (T ++ ((List.range k).map (fun i : Nat => ((s.ls.length + i : Nat) : Int)) ++ (s.dn ++ s.lf.drop j))).Perm _)
      · rw [← List.append_assoc, ← List.append_assoc]
        exact List.perm_append_comm.append_right _
      · exact List.perm_append_comm_assoc _ _ _
    refine ⟨knit_ok hy (srt_lt psn) psl k (s.ls, s.dn) h.ls psr, ?_, ?_, fun v e => by cases e⟩
    · show ((if k = 0 then s.ti ++ s.lf.take j else s.ti) ++ ((knit y (srt (s.lf.take j)) k (s.ls, s.dn)).2 ++ s.lf.drop j)).Nodup
      rw [hT, dn]
      refine pm.nodup_iff.mpr (List.nodup_append.mpr ⟨newN, old.1, fun a ha b hb => ?_⟩)
      have h1 := new a ha
      have h2 := old.2 b hb
      omega
    · intro x hx
      have hx' : x ∈ (if k = 0 then s.ti ++ s.lf.take j else s.ti) ++ ((knit y (srt (s.lf.take j)) k (s.ls, s.dn)).2 ++ s.lf.drop j) := hx
      rw [hT, dn] at hx'
      show 0 ≤ x ∧ x < ((knit y (srt (s.lf.take j)) k (s.ls, s.dn)).1.length : Int)
      rw [len]
      rcases List.mem_append.mp (pm.mem_iff.mp hx') with z | z
      · have := new x z
        show 0 ≤ x ∧ x < ((s.ls.length + k : Nat) : Int)
        omega
      · have := old.2 x z
        show 0 ≤ x ∧ x < ((s.ls.length + k : Nat) : Int)
        omega
theorem OkS.row {ys : List Str} {y : Str} (hy : y ∈ ys) : ∀ {qs : List Sti} {s s' : Sw}, (∀ q ∈ qs, smallQ q) → OkS ys s → rowS y qs s = some s' → OkS ys s'
  | [], s, s', _, h, e => by cases e; exact h
  | q :: r, s, s', sm, h, e => by
    unfold rowS at e
    cases e1 : stepS y q s with
    | none => rw [e1] at e; cases e
    | some s1 =>
      rw [e1] at e
      exact OkS.row hy (fun q' hq => sm q' (List.mem_cons_of_mem _ hq)) (h.step hy (sm q List.mem_cons_self) e1) e
theorem OkT.row {ys : List Str} {y : Str} {qs : List Sti} {st st' : St3} (h : OkT ys st) (hy : y ∈ ys) (sm : ∀ q ∈ qs, smallQ q) (e : rowD y qs st = some st') : OkT ys st' := by
  unfold rowD at e
  cases e1 : rowS y qs ⟨st.1, st.2.1, [], st.2.2, none⟩ with
  | none => rw [e1] at e; cases e
  | some s =>
    rw [e1] at e
    dsimp only at e
    split at e
    · rename_i nil
      cases e
      have o := OkS.row hy sm h.start e1
      refine ⟨o.ls, ?_, ?_⟩
      · have := o.nd
        rw [nil, List.append_nil] at this
        exact this
      · have := o.rg
        rw [nil, List.append_nil] at this
        exact this
    · cases e
/-- rows one after the other -/
def workD : List (Str × List Sti) → St3 → Option St3
  | [], st => some st
  | (y, qs) :: r, st => (rowD y qs st).bind (workD r)
theorem workD_app : ∀ (a b : List (Str × List Sti)) (st : St3), workD (a ++ b) st = (workD a st).bind (workD b)
  | [], b, st => rfl
  | (y, qs) :: r, b, st => by
    show (rowD y qs st).bind (workD (r ++ b)) = ((rowD y qs st).bind (workD r)).bind (workD b)
    cases rowD y qs st with
    | none => rfl
    | some st' => exact workD_app r b st'
def laid (y : Str) (n : Nat) : St3 := (List.replicate n (y, []), [], (List.range n).map fun i : Nat => (i : Int))
theorem laid_ok {ys : List Str} {y : Str} (n : Nat) (hy : y ∈ ys) : OkT ys (laid y n) := by
  refine ⟨fun k l e => ?_, ?_, fun x hx => ?_⟩
  · have hm := List.mem_of_getElem? e
    obtain rfl := (List.mem_replicate.mp hm).2
    exact ⟨hy, List.Pairwise.nil, Nat.zero_le _, fun p hp => absurd hp List.not_mem_nil⟩
  · show ([] ++ (List.range n).map fun i : Nat => (i : Int)).Nodup
    rw [List.nil_append]
    refine List.Pairwise.map _ (fun a b (hab : a ≠ b) => ?_) List.nodup_range
    omega
  · have hx' : x ∈ (List.range n).map fun i : Nat => (i : Int) := hx
    obtain ⟨i, hi, rfl⟩ := List.mem_map.mp hx'
    have := List.mem_range.mp hi
    show 0 ≤ (i : Int) ∧ (i : Int) < ((List.replicate n (y, ([] : List Int))).length : Int)
    rw [List.length_replicate]
    omega
end X6
namespace X6
open PySem PySem.Spec PyProof.Rows L2 LK
/-- over a text's signs -/
theorem lc_str {x : Str} {g : TG} {tt : TT} {te : TE} {vs : List Nat} {σ : L2.St} {H1 : Hp} {D : Addr} {Qd : Hp → Prop} (Pv : Nat → Hp → Prop) (h0 : Pv 0 (upd H1 D (.lst [])))
    (hs : ∀ i c H, x.cps.toList[i]? = some c → Pv i H → g (.str ⟨#[c]⟩) (wipe σ vs) H fun σ2 H2 => wipe σ2 vs = wipe σ vs ∧ tt σ2 H2 fun b H3 =>
      if b = true then te σ2 H3 fun y H4 => ∃ acc, H4 D = some (.lst acc) ∧ acc.length < sizeLine ∧ Pv (i + 1) (upd H4 D (.lst (acc ++ [y]))) else Pv (i + 1) H3) (hd : ∀ H, Pv x.cps.toList.length H → Qd H) :
    ∃ W : Nat → Nat → Hp → Prop, (∃ m, W 0 m (upd H1 D (.lst []))) ∧ ∀ i m H, W i m H →
      ((Its x).stop i H ∧ Qd H) ∨ ((Its x).go i H ∧ ∃ Nx : Hp → Prop, (∀ H', Nx H' → ∃ m', m' < m ∧ W (i + 1) m' H') ∧ ∀ v H', (Its x).yld i H v H' → g v (wipe σ vs) H' fun σ2 H2 => wipe σ2 vs = wipe σ vs ∧ tt σ2 H2 fun b H3 =>
        if b = true then te σ2 H3 fun y H4 => ∃ acc, H4 D = some (.lst acc) ∧ acc.length < sizeLine ∧ Nx (upd H4 D (.lst (acc ++ [y]))) else Nx H3) := by
  refine ⟨fun i m H => m = x.cps.toList.length - i ∧ i ≤ x.cps.toList.length ∧ Pv i H, ⟨x.cps.toList.length, by simp, Nat.zero_le _, h0⟩, ?_⟩
  rintro i m H ⟨rfl, hi, p⟩
  by_cases hlt : i < x.cps.toList.length
  · have hlt' : i < x.cps.size := by simpa using hlt
    refine .inr ⟨hlt', Pv (i + 1), fun H' p' => ⟨x.cps.toList.length - (i + 1), by omega, rfl, hlt, p'⟩, fun v H' y => ?_⟩
    obtain ⟨e, c, hc, ev⟩ := y
    subst e ev
    exact hs i c _ (by simpa using hc) p
  · have e : i = x.cps.toList.length := by omega
    subst e
    refine .inl ⟨?_, hd H p⟩
    show x.cps.size ≤ x.cps.toList.length
    simp
/-- what the program asks of an integer, a number, a thread -/
def isIntD : PyData → Bool
  | .int _ => true
  | _ => false
def isNumD (many : Int) : PyData → Bool
  | .int i => decide (0 ≤ i ∧ i < many)
  | _ => false
def isThrD : PyData → Bool
  | .str z => decide (1 ≤ z.length ∧ z.length ≤ 8) && z.cps.toList.all fun c => decide (97 ≤ c ∧ c ≤ 122)
  | _ => false
def spInt (K : PySem.W.Frag) : Sp := fun vs H Q _ => ∃ (v : V) (d : PyData), vs = [v] ∧ Dp K H v d ∧ ∀ H', Same H H' → Q (.bl (isIntD d)) H'
def spNum (K : PySem.W.Frag) : Sp := fun vs H Q _ => ∃ (v : V) (d : PyData) (many : Int), vs = [v, .int many] ∧ Dp K H v d ∧ ∀ H', Same H H' → Q (.bl (isNumD many d)) H'
mutual
/-- short texts, short lists, all the way down -/
def tame : PyData → Bool
  | .list xs => decide (xs.length ≤ 1000) && tameAll xs
  | .tuple xs => decide (xs.length ≤ 1000) && tameAll xs
  | .str z => decide (z.length ≤ 1000)
  | _ => true
def tameAll : List PyData → Bool
  | [] => true
  | x :: r => tame x && tameAll r
end
theorem tame_mem : ∀ {ds : List PyData} {d : PyData}, tameAll ds = true → d ∈ ds → tame d = true
  | x :: r, d, h, e => by
    rw [tameAll, Bool.and_eq_true] at h
    rcases List.mem_cons.mp e with rfl | e
    · exact h.1
    · exact tame_mem h.2 e
theorem abc_mem {c : Nat} : c ∈ abc.cps.toList ↔ 97 ≤ c ∧ c ≤ 122 := by
  have : abc.cps.toList = List.range' 97 26 := by decide +kernel
  rw [this, List.mem_range'_1]
  omega
theorem sh_signs {z : Str} (h : PyData.canLay0 (.str z) = true) (f : Nat → Bool) : ∀ n, SeqAt.shaped (.list ((((z.cps.toList.take n).filter f).map fun c => (⟨#[c]⟩ : Str)).map PyData.str)) = true := fun n => by
  have hz : ∀ c ∈ z.cps.toList, c < 0x110000 := fun c hc => by
    have h' : z.cps.all (· < 0x110000) = true := h
    rw [Array.all_eq_true_iff_forall_mem] at h'
    exact of_decide_eq_true (h' c (by simpa using hc))
  have g : ∀ cs : List Nat, (∀ c ∈ cs, c < 0x110000) → PyData.canLayAll0 ((cs.map fun c => (⟨#[c]⟩ : Str)).map PyData.str) = true ∧ PyData.depthAll ((cs.map fun c => (⟨#[c]⟩ : Str)).map PyData.str) = 0 := by
    intro cs
    induction cs with
    | nil => exact fun _ => ⟨rfl, rfl⟩
    | cons c r ih =>
      intro hc
      obtain ⟨a, b⟩ := ih fun x hx => hc x (List.mem_cons_of_mem _ hx)
      constructor
      · rw [List.map_cons, List.map_cons, PyData.canLayAll0, a, Bool.and_true]
        show (#[c]).all (· < 0x110000) = true
        simp [hc c (List.mem_cons_self ..)]
      · rw [List.map_cons, List.map_cons, PyData.depthAll, b]
        rfl
  obtain ⟨a, b⟩ := g ((z.cps.toList.take n).filter f) fun c hc => hz c (List.mem_of_mem_take (List.mem_filter.mp hc).1)
  refine shaped_of (by simpa only [PyData.canLay0] using a) ?_
  simp only [PyData.depth, b]
  decide
theorem sz1000 : 1000 ≤ sizeLine := by decide
def spThr (K : PySem.W.Frag) : Sp := fun vs H Q _ => ∃ (v : V) (d : PyData), vs = [v] ∧ Dp K H v d ∧ tame d = true ∧ d.canLay0 = true ∧ ∀ H', Same H H' → Q (.bl (isThrD d)) H'
def spSpot (K : PySem.W.Frag) : Sp := fun vs H Q _ => ∃ (v : V) (d : PyData) (many : Int), vs = [.int many, v] ∧ Dp K H v d ∧ ∀ H', Same H H' → Q (.bl (isNumD many d)) H'
theorem isK_int {d : PyData} : (isK d "int" && !isK d "bool") = isIntD d := by
  cases d <;> rfl
theorem int_of {K : PySem.W.Frag} {H : Hp} {v : V} {d : PyData} (h : Dp K H v d) (e : isIntD d = true) : ∃ i, v = .int i ∧ d = .int i := by
  cases h with
  | int i => exact ⟨i, rfl, rfl⟩
  | _ => exact absurd e (by simp [isIntD])
theorem str_of {K : PySem.W.Frag} {H : Hp} {v : V} {d : PyData} (h : Dp K H v d) (e : isK d "str" = true) : ∃ z, v = .str z ∧ d = .str z := by
  cases h with
  | str z => exact ⟨z, rfl, rfl⟩
  | non => exact absurd e (by decide +kernel)
  | bl b => exact absurd (show isK (.bool true) "str" = true from e) (by decide +kernel)
  | int i => exact absurd (show isK (.int 0) "str" = true from e) (by decide +kernel)
  | lst _ _ => exact absurd (show isK (.list []) "str" = true from e) (by decide +kernel)
  | tup _ _ => exact absurd (show isK (.tuple []) "str" = true from e) (by decide +kernel)
section
variable {P : Program} {w : World} {K : PySem.W.Frag} {mg : Str → Option Value} {base : Heap}
abbrev sIsInt : Stmt := top 8
theorem scIsInt : FnScope ["value"] ["value"] (defScope sIsInt) := ⟨rfl, rfl, rfl, by decide +kernel, rfl, by decide +kernel, by decide +kernel⟩
theorem ok_IsInt {f : Addr} {fd : FuncData} (F : Fun K "is_integer" "is_integer" sIsInt f fd) (B : Bl mg) : FnOk P w K mg base CX0 1 f fd ["value"] (spInt K) := by
  refine F.ok scIsInt (fun vs H Q E h => ?_) (fun cdv A outer s H vs Q E hr h => ?_)
  · obtain ⟨v, d, rfl, _⟩ := h
    rfl
  · obtain ⟨v, d, rfl, h1, k⟩ := h
    refine ⟨_, pss_one (ps_ret (pe_and (pe_callB call_isi (by rfl) (B "isinstance" (by decide)) (by decide +kernel) (pa_cons (pv 0) (pa_cons (pe_bltn (v := .ty "int") rfl (B "int" (by decide)) (by decide +kernel) rfl) pa_nil))) (pe_one (pe_not (pe_callB call_isi (by rfl) (B "isinstance" (by decide)) (by decide +kernel) (pa_cons (pv 0) (pa_cons (pe_bltn (v := .ty "bool") rfl (B "bool" (by decide)) (by decide +kernel) rfl) pa_nil))))))), ?_⟩
    rw [← isK_int] at k
    refine ⟨_, rfl, _, _, _, _, _, rfl, .ty "int", dp_ty h1, kit_d h1 "int" (by decide), _, rfl, ?_⟩
    cases e : isK d "int" with
    | false =>
      refine LK.ifF rfl ?_
      have := k H (Same.refl H)
      rwa [e] at this
    | true =>
      refine LK.ifT rfl ⟨_, rfl, _, _, _, _, _, rfl, .ty "bool", dp_ty h1, kit_d h1 "bool" (by decide), _, rfl, ?_⟩
      have := k H (Same.refl H)
      rwa [e] at this
abbrev sIsNum : Stmt := top 9
theorem scIsNum : FnScope ["value", "many"] ["value", "many"] (defScope sIsNum) := ⟨rfl, rfl, rfl, by decide +kernel, rfl, by decide +kernel, by decide +kernel⟩
theorem ok_IsNum {f : Addr} {fd : FuncData} (F : Fun K "is_number" "is_number" sIsNum f fd) (B : Bl mg) {fi : Addr} {fdi : FuncData} (Gi : FnOk P w K mg base CX0 1 fi fdi ["value"] (spInt K)) (gi : mg "is_integer" = some (.ref fi)) (ki : PySem.W.keepIn K (.ref fi) = true) (bi : Binds K fdi ["value"] []) : FnOk P w K mg base CX0 2 f fd ["value", "many"] (spNum K) := by
  refine F.ok scIsNum (fun vs H Q E h => ?_) (fun cdv A outer s H vs Q E hr h => ?_)
  · obtain ⟨v, d, many, rfl, _⟩ := h
    rfl
  · obtain ⟨v, d, many, rfl, h1, k⟩ := h
    refine ⟨_, pss_one (ps_ret (pe_and (pe_call (E := E0) Gi (hr.mono (by decide)) rfl gi ki bi .nil pass0 (pa_cons (pv 0) pa_nil)) (pe_one (pe_chain op_le op_lt pe_int (pv 0) (pv 1))))), ?_⟩
    refine ⟨_, rfl, v, d, rfl, h1, fun H1 s1 => ⟨_, rfl, ?_⟩⟩
    cases e : isIntD d with
    | false =>
      refine LK.ifF rfl ?_
      have := k H1 s1
      have en : isNumD many d = false := by
        cases d <;> first | rfl | exact absurd e (by simp [isIntD])
      rwa [en] at this
    | true =>
      obtain ⟨i, rfl, rfl⟩ := int_of h1 e
      refine LK.ifT rfl ⟨_, rfl, _, _, rfl, rfl, _, rfl, ?_⟩
      have kk := k H1 s1
      rw [isNumD] at kk
      by_cases c0 : 0 ≤ i
      · refine LK.ifT (decide_eq_true c0) ⟨_, rfl, _, _, rfl, rfl, ?_⟩
        rwa [show decide (0 ≤ i ∧ i < many) = decide (i < many) by simp [c0]] at kk
      · refine LK.ifF (decide_eq_false c0) ?_
        rwa [show decide (0 ≤ i ∧ i < many) = false by simp [c0]] at kk
abbrev sIsThr : Stmt := top 10
theorem scIsThr : FnScope ["value", "sign"] ["value"] (defScope sIsThr) := ⟨rfl, rfl, rfl, by decide +kernel, rfl, by decide +kernel, by decide +kernel⟩
theorem ok_IsThr {f : Addr} {fd : FuncData} (F : Fun K "is_thread" "is_thread" sIsThr f fd) (B : Bl mg) (gL : ∃ t, mg "LONGEST_THREAD" = some (.int 8 t)) : FnOk P w K mg base CX0 1 f fd ["value"] (spThr K) := by
  refine F.ok scIsThr (fun vs H Q E h => ?_) (fun cdv A outer s H vs Q E hr h => ?_)
  · obtain ⟨v, d, rfl, _⟩ := h
    rfl
  · obtain ⟨v, d, rfl, h1, tm, lay, k⟩ := h
    obtain ⟨tk, gL⟩ := gL
    refine ⟨_, pss_cons (ps_if (PW.pt (pw_or (pt_not (pt_val (pe_callB call_isi (by rfl) (B "isinstance" (by decide)) (by decide +kernel) (pa_cons (pv 0) (pa_cons (pe_bltn (v := .ty "str") rfl (B "str" (by decide)) (by decide +kernel) rfl) pa_nil))))) (pw_or1 (pt_not (pt_chain op_le op_le pe_int (pe_callB call_len_str (by rfl) (B "len" (by decide)) (by decide +kernel) (pa_cons (pv 0) pa_nil)) (pe_glob (v := .int 8) rfl gL ⟨_, rfl⟩)))))) (pss_one (ps_ret pe_bl)) pss_nil)
      (pss_one (ps_ret (pe_callB (cr_all rfl) (by rfl) (B "all" (by decide)) (by decide +kernel) (pa_cons (pe_lc (own := [("sign", 1)]) (g := gName 1) (tt := tYes) rfl scIsThr.nd (pi_str (pv 0)) (blkOk_by (N := ["value", "sign"]) (sc := defScope sIsThr) (by decide +kernel)) (fun _ _ _ _ _ => pg_name (i := 1) scIsThr.nd rfl (Or.inl rfl)) (fun _ _ _ _ _ => pts_nil) (fun _ _ _ _ _ => pe_chain op_le_str op_le_str pe_str (pv 1) pe_str)) pa_nil)))), ?_⟩
    refine ⟨_, rfl, _, _, _, _, _, rfl, .ty "str", dp_ty h1, kit_d h1 "str" (by decide), _, rfl, ?_⟩
    have kk := k H (Same.refl H)
    cases e : isK d "str" with
    | false =>
      refine LK.ifT rfl (LK.ifT rfl ?_)
      have en : isThrD d = false := by
        cases d <;> first | rfl | exact absurd (show isK (.str "") "str" = false from e) (by decide +kernel)
      rwa [en] at kk
    | true =>
      obtain ⟨z, rfl, rfl⟩ := str_of h1 e
      have zl : z.length ≤ sizeLine := Nat.le_trans (of_decide_eq_true tm) sz1000
      refine LK.ifF rfl ⟨_, rfl, z, rfl, zl, _, _, rfl, rfl, _, rfl, ?_⟩
      have no : ¬ (1 ≤ z.length ∧ z.length ≤ 8) → isThrD (.str z) = false := fun n => by
        rw [isThrD, decide_eq_false n, Bool.false_and]
      by_cases c1 : (1 : Int) ≤ (z.length : Int)
      · refine LK.ifT (decide_eq_true c1) ⟨_, _, rfl, rfl, _, rfl, ?_⟩
        by_cases c2 : (z.length : Int) ≤ 8
        · refine LK.ifF (by simp [c2]) ⟨_, rfl, z, rfl, fun D nD => ?_⟩
          refine lc_str (x := z) (fun j H' => H' D = some (.lst ((((z.cps.toList.take j).map fun c => decide (97 ≤ c ∧ c ≤ 122)).map V.bl))) ∧ Same H H') ⟨upd_same, same_new nD⟩ (fun j c H' hj hh => ⟨rfl, ?_⟩) (fun H' hh => ?_)
          · obtain ⟨hD, s1⟩ := hh
            have fin : ∀ b : Bool, b = decide (97 ≤ c ∧ c ≤ 122) → ∃ acc, H' D = some (.lst acc) ∧ acc.length < sizeLine ∧ (L2.upd H' D (.lst (acc ++ [V.bl b])) D = some (.lst ((((z.cps.toList.take (j + 1)).map fun c => decide (97 ≤ c ∧ c ≤ 122)).map V.bl))) ∧ Same H (L2.upd H' D (.lst (acc ++ [V.bl b])))) := by
              rintro b rfl
              refine ⟨_, hD, ?_, ?_, fun b o e => ?_⟩
              · rw [List.length_map, List.length_map, List.length_take]
                have : z.cps.toList.length = z.length := by simp [Str.length]
                have : j < z.length := by
                  have := (List.getElem?_eq_some_iff.mp hj).1
                  omega
                exact Nat.lt_of_lt_of_le (by omega : _ < 100) (by decide)
              · rw [upd_same, List.take_succ, hj, List.map_append, List.map_append]
                rfl
              · rw [upd_ne (ne_of_none e nD)]
                exact s1 b o e
            have a1 : decide ([c] < ([97] : List Nat)) = decide (c < 97) := by simp [List.cons_lt_cons_iff]
            have a2 : decide (([122] : List Nat) < [c]) = decide (122 < c) := by simp [List.cons_lt_cons_iff]
            refine ⟨_, rfl, _, _, rfl, rfl, _, rfl, ?_⟩
            show if (!decide ([c] < ([97] : List Nat))) = true then _ else _
            rw [a1]
            by_cases k1 : c < 97
            · rw [decide_eq_true k1]
              exact LK.ifF rfl (fin false (by simp; omega))
            · rw [decide_eq_false k1]
              refine LK.ifT rfl ⟨_, _, rfl, rfl, fin _ ?_⟩
              show (!decide (([122] : List Nat) < [c])) = _
              rw [a2]
              rw [Bool.eq_iff_iff]
              simp
              omega
          · obtain ⟨hD, s1⟩ := hh
            refine ⟨D, _, rfl, SqL.of hD, ?_⟩
            have kk := k H' s1
            rw [isThrD, decide_eq_true ⟨by omega, by omega⟩, Bool.true_and] at kk
            rw [List.take_length, List.all_map]
            exact kk
        · refine LK.ifT (by simp [c2]) ?_
          rwa [no (by omega)] at kk
      · refine LK.ifF (decide_eq_false c1) ⟨_, rfl, LK.ifT rfl ?_⟩
        rwa [no (by omega)] at kk
end
end X6
namespace X6
open PySem PySem.Spec PyProof.Rows L2 LK
/-- a loop over enumerate of a list that stands still -/
theorem for_enum {K : PySem.W.Frag} {a : Addr} {xs : List V} {g : TG} {tb : TS} {D : Ends} {σ : L2.St} {H : Hp} (Pv : Nat → L2.St → Hp → Prop) (h0 : Pv 0 σ H) (hq : ∀ i σ H, Pv i σ H → SqL K H a xs)
    (hs : ∀ (i : Nat) (x : V) (T : Addr) (σ : L2.St) (H : Hp), xs[i]? = some x → Pv i σ H → H T = none → g (.ref T) σ (upd H T (.tup [.int (i : Nat), x])) fun σ2 H2 => tb { D with nx := Pv (i + 1), ct := Pv (i + 1), bk := D.nx } σ2 H2) (hd : ∀ σ H, Pv xs.length σ H → D.nx σ H) :
    ∃ W : Nat → Nat → L2.St → Hp → Prop, (∃ m, W 0 m σ H) ∧ ∀ i m σ H, W i m σ H →
      ((Ite K a).stop i H ∧ D.nx σ H) ∨ ((Ite K a).go i H ∧ ∃ N : L2.St → Hp → Prop, (∀ σ' H', N σ' H' → ∃ m', m' < m ∧ W (i + 1) m' σ' H') ∧ ∀ v H', (Ite K a).yld i H v H' → g v σ H' fun σ2 H2 => tb { D with nx := N, ct := N, bk := D.nx } σ2 H2) := by
  refine ⟨fun i m σ H => m = xs.length - i ∧ i ≤ xs.length ∧ Pv i σ H, ⟨xs.length, rfl, Nat.zero_le _, h0⟩, ?_⟩
  rintro i m σ H ⟨rfl, hi, p⟩
  have qx := hq i σ H p
  by_cases hlt : i < xs.length
  · have hx : xs[i]? = some xs[i] := List.getElem?_eq_getElem hlt
    refine .inr ⟨⟨xs, _, qx, hx⟩, Pv (i + 1), fun σ' H' p' => ⟨xs.length - (i + 1), by omega, rfl, hlt, p'⟩, fun v H' y => ?_⟩
    obtain ⟨T, x', rfl, hT, rfl, f1⟩ := y
    exact hs i x' T σ H (f1 xs qx) p hT
  · have e : i = xs.length := by omega
    subst e
    exact .inl ⟨⟨xs, qx, Nat.le_refl _⟩, hd σ H p⟩
def hasInt (ds : List PyData) (i : Int) : Bool := ds.any fun d => match d with
  | .int j => j == i
  | _ => false
/-- the number at k is none, or stands ahead already -/
def lotBad (many : Int) (ds : List PyData) (k : Nat) : Bool := match ds[k]? with
  | some (.int i) => !decide (0 ≤ i ∧ i < many) || hasInt (ds.take k) i
  | some _ => true
  | none => false
def lotFault (many : Int) : PyData → Option Int
  | .list ds => ((List.range ds.length).find? (lotBad many ds)).map fun k : Nat => (k : Int)
  | _ => some (-1)
def optV : Option Int → V
  | none => .non
  | some i => .int i
def spLot (K : PySem.W.Frag) : Sp := fun vs H Q _ => ∃ (v : V) (d : PyData) (many : Int), vs = [v, .int many] ∧ Dp K H v d ∧ tame d = true ∧ ∀ H', Same H H' → Q (optV (lotFault many d)) H'
def spLot2 (K : PySem.W.Frag) : Sp := fun vs H Q _ => ∃ (v : V) (d : PyData) (many : Int), vs = [.int many, v] ∧ Dp K H v d ∧ tame d = true ∧ ∀ H', Same H H' → Q (optV (lotFault many d)) H'
theorem list_of {K : PySem.W.Frag} {H : Hp} {v : V} {d : PyData} (h : Dp K H v d) (e : isK d "list" = true) : ∃ a xs ds, v = .ref a ∧ d = .list ds ∧ SqL K H a xs ∧ DpAll K H xs ds := by
  cases h with
  | lst s a => exact ⟨_, _, _, rfl, rfl, s, a⟩
  | non => exact absurd e (by decide +kernel)
  | bl b => exact absurd (show isK (.bool true) "list" = true from e) (by decide +kernel)
  | int i => exact absurd (show isK (.int 0) "list" = true from e) (by decide +kernel)
  | str z => exact absurd (show isK (.str "") "list" = true from e) (by decide +kernel)
  | tup _ _ => exact absurd (show isK (.tuple []) "list" = true from e) (by decide +kernel)
theorem tup_of {K : PySem.W.Frag} {H : Hp} {v : V} {d : PyData} (h : Dp K H v d) (e : isK d "tuple" = true) : ∃ a xs ds, v = .ref a ∧ d = .tuple ds ∧ SqT K H a xs ∧ DpAll K H xs ds := by
  cases h with
  | tup s a => exact ⟨_, _, _, rfl, rfl, s, a⟩
  | non => exact absurd e (by decide +kernel)
  | bl b => exact absurd (show isK (.bool true) "tuple" = true from e) (by decide +kernel)
  | int i => exact absurd (show isK (.int 0) "tuple" = true from e) (by decide +kernel)
  | str z => exact absurd (show isK (.str "") "tuple" = true from e) (by decide +kernel)
  | lst _ _ => exact absurd (show isK (.list []) "tuple" = true from e) (by decide +kernel)
theorem lot_no {many : Int} {d : PyData} (e : isK d "list" = false) : lotFault many d = some (-1) := by
  cases d <;> first | rfl | exact absurd (show isK (.list []) "list" = false from e) (by decide +kernel)
theorem find_all {p : Nat → Bool} {n : Nat} (h : ∀ k < n, p k = false) : (List.range n).find? p = none := by
  rw [List.find?_eq_none]
  intro x hx
  simp [h x (List.mem_range.mp hx)]
theorem find_at {p : Nat → Bool} {n k : Nat} (hk : k < n) (h : ∀ j < k, p j = false) (hp : p k = true) : (List.range n).find? p = some k := by
  have e : List.range n = List.range k ++ k :: (List.range' (k + 1) (n - k - 1)) := by
    have h1 : n = k + (n - k) := by omega
    have h2 : n - k = (n - k - 1) + 1 := by omega
    rw [List.range_eq_range', List.range_eq_range', h1, ← List.range'_append_1, Nat.zero_add, show k + (n - k) - k = n - k by omega, h2, List.range'_succ]
    rfl
  rw [e, List.find?_append, find_all h, Option.none_or, List.find?_cons, hp]
theorem lotBad_no {many : Int} {ds : List PyData} {k : Nat} {d : PyData} (e : ds[k]? = some d) (n : isNumD many d = false) : lotBad many ds k = true := by
  unfold lotBad
  rw [e]
  cases d with
  | int i =>
    rw [isNumD] at n
    show (!decide (0 ≤ i ∧ i < many) || _) = true
    rw [n]
    rfl
  | _ => rfl
theorem lotBad_int {many : Int} {ds : List PyData} {k : Nat} {i : Int} (e : ds[k]? = some (.int i)) (n : isNumD many (.int i) = true) : lotBad many ds k = hasInt (ds.take k) i := by
  unfold lotBad
  rw [e]
  rw [isNumD] at n
  show (!decide (0 ≤ i ∧ i < many) || _) = _
  rw [n]
  rfl
theorem num_int {many : Int} {d : PyData} (n : isNumD many d = true) : isIntD d = true := by
  cases d <;> first | rfl | exact absurd n (by simp [isNumD])
theorem hasInt_more {ds : List PyData} {k : Nat} {i : Int} (e : ds[k]? = some (.int i)) : hasInt (ds.take (k + 1)) = fun j => hasInt (ds.take k) j || decide (j = i) := by
  funext j
  unfold hasInt
  rw [List.take_succ, e, List.any_append]
  simp only [Option.toList, List.any_cons, List.any_nil, Bool.or_false]
  congr 1
  rw [Bool.eq_iff_iff]
  simp
  exact ⟨fun h => h.symm, fun h => h.symm⟩
theorem nums_take {K : PySem.W.Frag} {H : Hp} {many : Int} : ∀ {xs : List V} {ds : List PyData} {k : Nat}, DpAll K H xs ds → (∀ j < k, ∀ d, ds[j]? = some d → isNumD many d = true) → ∃ ns : List Int, xs.take k = ns.map V.int ∧ ds.take k = ns.map PyData.int
  | _, _, _, .nil, _ => ⟨[], by simp, by simp⟩
  | _, _, 0, .cons _ _, _ => ⟨[], rfl, rfl⟩
  | _, _, k + 1, .cons a r, h => by
    have h0 := h 0 (by omega) _ rfl
    obtain ⟨i, rfl, rfl⟩ := int_of a (num_int h0)
    obtain ⟨ns, e1, e2⟩ := nums_take (k := k) r fun j hj d e => h (j + 1) (by omega) d e
    exact ⟨i :: ns, by rw [List.take_succ_cons, e1]; rfl, by rw [List.take_succ_cons, e2]; rfl⟩
theorem hasInt_ints (ns : List Int) (i : Int) : hasInt (ns.map PyData.int) i = decide (i ∈ ns) := by
  unfold hasInt
  rw [List.any_map, Bool.eq_iff_iff, List.any_eq_true]
  simp
theorem bad_num {many : Int} {ds : List PyData} {j : Nat} {d : PyData} (h : lotBad many ds j = false) (e : ds[j]? = some d) : isNumD many d = true := by
  cases q : isNumD many d with
  | true => rfl
  | false => rw [lotBad_no e q] at h; cases h
theorem cut_take {xs : List V} {i : Nat} (h : i ≤ xs.length) : cutV xs none (some (i : Int)) = xs.take i := by
  unfold cutV
  rw [HT.sIx_nat, HT.sIx_none, List.drop_zero, Nat.sub_zero, Nat.min_eq_left h]
section
variable {P : Program} {w : World} {K : PySem.W.Frag} {mg : Str → Option Value} {base : Heap}
abbrev sWrong : Stmt := top 11
theorem scWrong : FnScope ["numbers", "many", "seen", "index", "number"] ["numbers", "many"] (defScope sWrong) := ⟨rfl, rfl, rfl, by decide +kernel, rfl, by decide +kernel, by decide +kernel⟩
theorem ok_Wrong {f : Addr} {fd : FuncData} (F : Fun K "wrong_number" "wrong_number" sWrong f fd) (B : Bl mg) {fn : Addr} {fdn : FuncData} (Gn : FnOk P w K mg base CX0 2 fn fdn ["value", "many"] (spNum K)) (gn : mg "is_number" = some (.ref fn)) (kn : PySem.W.keepIn K (.ref fn) = true) (bn : Binds K fdn ["value", "many"] []) : FnOk P w K mg base CX0 3 f fd ["numbers", "many"] (spLot K) := by
  refine F.ok scWrong (fun vs H Q E h => ?_) (fun cdv A outer s H vs Q E hr h => ?_)
  · obtain ⟨v, d, many, rfl, _⟩ := h
    rfl
  · obtain ⟨v, d, many, rfl, h1, tm, k⟩ := h
    refine ⟨_, pss_cons (ps_if (pt_not (pt_val (pe_callB call_isi (by rfl) (B "isinstance" (by decide)) (by decide +kernel) (pa_cons (pv 0) (pa_cons (pe_bltn (v := .ty "list") rfl (B "list" (by decide)) (by decide +kernel) rfl) pa_nil))))) (pss_one (ps_ret (pe_un un_neg pe_int))) pss_nil)
      (pss_cons (ps_set (i := 2) scWrong.nd rfl (Or.inl rfl) (pe_callTy0 cr_set0 (by rfl) (B "set" (by decide)) (by decide +kernel)))
      (pss_cons (ps_for PassesOwn.never rfl (pi_enum (by rfl) (B "enumerate" (by decide)) (pa_cons (pv 0) pa_nil)) (pg_tup rfl (pgs_cons (pg_name (i := 3) scWrong.nd rfl (Or.inl rfl)) (pgs_cons (pg_name (i := 4) scWrong.nd rfl (Or.inl rfl)) pgs_nil))) (pss_cons (ps_if (PW.pt (pw_or (pt_not (pt_val (pe_call (E := E0) Gn (hr.mono (by decide)) rfl gn kn bn .nil pass0 (pa_cons (pv 4) (pa_cons (pv 1) pa_nil))))) (pw_or1 (pt_cmpR or_sin (pv 4) (pv 2) (by rfl))))) (pss_one (ps_ret (pv 3))) pss_nil)
      (pss_one (ps_expr (pe_sadd (pv 2) (pa_cons (pv 4) pa_nil))))))
      (pss_one (ps_ret pe_non)))), ?_⟩
    refine ⟨_, rfl, _, _, _, _, _, rfl, .ty "list", dp_ty h1, kit_d h1 "list" (by decide), _, rfl, ?_⟩
    cases e : isK d "list" with
    | false =>
      refine LK.ifT rfl ⟨1, rfl, ?_⟩
      have := k H (Same.refl H)
      rwa [lot_no e] at this
    | true =>
      obtain ⟨a, xs, ds, rfl, rfl, hs, hd⟩ := list_of h1 e
      have ln : ds.length ≤ 1000 := by
        rw [tame, Bool.and_eq_true] at tm
        exact of_decide_eq_true tm.1
      have xl := dps_len hd
      refine LK.ifF rfl ⟨rfl, fun S nS => ?_⟩
      refine ⟨_, rfl, a, xs, rfl, (same_new nS).seq hs, ?_⟩
      refine for_enum (xs := xs) (fun i σ H' => ∃ (o3 o4 : Option V) (n : Nat), σ = [some (.ref a), some (.int many), some (.ref S), o3, o4] ∧ H' S = some (SetO w S (hasInt (ds.take i)) n) ∧ n ≤ i ∧ (∀ k < i, lotBad many ds k = false) ∧ Same H H')
        ⟨_, _, 0, rfl, upd_same, Nat.le_refl _, fun k h => absurd h (Nat.not_lt_zero _), same_new nS⟩ (fun i σ H' h => h.choose_spec.choose_spec.choose_spec.2.2.2.2.seq hs) (fun i x T σ H' hx hI nT => ?_) (fun σ H' hI => ?_)
      · obtain ⟨o3, o4, n, rfl, hS, hn, hb, s1⟩ := hI
        obtain ⟨x', d, hx', hd', dx⟩ := dps_at hd (i := i) (by rw [← xl]; exact (List.getElem?_eq_some_iff.mp hx).1)
        obtain rfl : x = x' := by
          rw [hx] at hx'
          exact Option.some.inj hx'
        have s2 := same_new (o := .tup [.int (i : Nat), x]) nT
        have s3 : Same H _ := fun b o e => s2 b o (s1 b o e)
        have hS2 := s2 _ _ hS
        refine ⟨T, _, rfl, .inl (.inl upd_same), rfl, _, _, rfl, _, _, rfl, rfl, ?_⟩
        refine ⟨_, rfl, _, rfl, x, d, many, rfl, dp_same s3 dx, fun H2 s4 => ⟨_, rfl, ?_⟩⟩
        have s5 : Same H H2 := fun b o e => s4 b o (s3 b o e)
        have hS3 := s4 _ _ hS2
        have il : i < ds.length := by
          rw [← xl]
          exact (List.getElem?_eq_some_iff.mp hx).1
        cases e1 : isNumD many d with
        | false =>
          refine LK.ifT rfl (LK.ifT rfl ⟨_, rfl, ?_⟩)
          have := k H2 s5
          rwa [lotFault, find_at il hb (lotBad_no hd' e1)] at this
        | true =>
          obtain ⟨q, rfl, rfl⟩ := int_of dx (num_int e1)
          refine LK.ifF rfl ⟨_, rfl, _, rfl, q, S, _, n, rfl, rfl, hS3, _, rfl, ?_⟩
          cases e2 : hasInt (ds.take i) q with
          | true =>
            refine LK.ifT rfl ⟨_, rfl, ?_⟩
            have := k H2 s5
            rwa [lotFault, find_at il hb ((lotBad_int hd' e1).trans e2)] at this
          | false =>
            refine LK.ifF rfl ⟨_, rfl, ⟨S, _, n, rfl, hS3⟩, _, rfl, S, q, _, n, rfl, rfl, hS3, ?_, _, _, n + 1, rfl, ?_, ?_, ?_, ?_⟩
            · show n + 1 < 4096
              omega
            · rw [upd_same, hasInt_more hd', if_neg (by rw [e2]; decide)]
              rfl
            · omega
            · intro k' hk'
              by_cases ek : k' = i
              · subst ek
                exact (lotBad_int hd' e1).trans e2
              · exact hb k' (by omega)
            · intro b o eb
              rw [upd_ne (ne_of_none eb nS)]
              exact s5 b o eb
      · obtain ⟨o3, o4, n, rfl, hS, hn, hb, s1⟩ := hI
        have := k H' s1
        rw [lotFault, find_all (fun j hj => hb j (by omega))] at this
        exact this
end
end X6
namespace X6
open PySem PySem.Spec PyProof.Rows L2 LK RZ
/-- over zip of two tuples, the second not longer -/
theorem lc_zipT {K : PySem.W.Frag} {a b : Addr} {xs ys : List V} {g : TG} {tt : TT} {te : TE} {vs : List Nat} {σ : L2.St} {H1 : Hp} {D : Addr} {Qd : Hp → Prop} (hl : ys.length ≤ xs.length) (Pv : Nat → Hp → Prop) (h0 : Pv 0 (upd H1 D (.lst []))) (hq : ∀ i H, Pv i H → SqT K H a xs ∧ SqT K H b ys)
    (hs : ∀ i x y T H, xs[i]? = some x → ys[i]? = some y → Pv i H → H T = none → g (.ref T) (wipe σ vs) (upd H T (.tup [x, y])) fun σ2 H2 => wipe σ2 vs = wipe σ vs ∧ tt σ2 H2 fun b H3 =>
      if b = true then te σ2 H3 fun y H4 => ∃ acc, H4 D = some (.lst acc) ∧ acc.length < sizeLine ∧ Pv (i + 1) (upd H4 D (.lst (acc ++ [y]))) else Pv (i + 1) H3) (hd : ∀ H, Pv ys.length H → Qd H) :
    ∃ W : Nat → Nat → Hp → Prop, (∃ m, W 0 m (upd H1 D (.lst []))) ∧ ∀ i m H, W i m H →
      ((ItzT K a b).stop i H ∧ Qd H) ∨ ((ItzT K a b).go i H ∧ ∃ Nx : Hp → Prop, (∀ H', Nx H' → ∃ m', m' < m ∧ W (i + 1) m' H') ∧ ∀ v H', (ItzT K a b).yld i H v H' → g v (wipe σ vs) H' fun σ2 H2 => wipe σ2 vs = wipe σ vs ∧ tt σ2 H2 fun b H3 =>
        if b = true then te σ2 H3 fun y H4 => ∃ acc, H4 D = some (.lst acc) ∧ acc.length < sizeLine ∧ Nx (upd H4 D (.lst (acc ++ [y]))) else Nx H3) := by
  refine ⟨fun i m H => m = ys.length - i ∧ i ≤ ys.length ∧ Pv i H, ⟨ys.length, by simp, Nat.zero_le _, h0⟩, ?_⟩
  rintro i m H ⟨rfl, hi, p⟩
  obtain ⟨qx, qy⟩ := hq i H p
  by_cases hlt : i < ys.length
  · have hy : ys[i]? = some ys[i] := List.getElem?_eq_getElem hlt
    have hx : xs[i]? = some (xs[i]'(by omega)) := List.getElem?_eq_getElem (by omega)
    refine .inr ⟨⟨xs, ys, _, _, qx, qy, hx, hy⟩, Pv (i + 1), fun H' p' => ⟨ys.length - (i + 1), by omega, rfl, hlt, p'⟩, fun v H' y => ?_⟩
    obtain ⟨T, x', y', rfl, hT, rfl, f1, f2⟩ := y
    exact hs i x' y' T H (f1 xs qx) (f2 ys qy) p hT
  · have e : i = ys.length := by omega
    subst e
    exact .inl ⟨⟨xs, ys, qx, qy, Or.inr (Nat.le_refl _)⟩, hd H p⟩
def ltAt (ds : List PyData) (j : Nat) : Bool := match ds[j]?, ds[j + 1]? with
  | some (.int a), some (.int b) => decide (a < b)
  | _, _ => false
/-- each less than the next one -/
def rise (ds : List PyData) : Bool := (List.range (ds.length - 1)).all (ltAt ds)
def isParD (many : Int) : PyData → Bool
  | .tuple ds => ds.all (isNumD many) && rise ds
  | _ => false
def isLoopD (number : Int) : PyData → Bool
  | .tuple [a, b] => isThrD a && isParD number b
  | _ => false
def spPar (K : PySem.W.Frag) : Sp := fun vs H Q _ => ∃ (v : V) (d : PyData) (many : Int), vs = [v, .int many] ∧ Dp K H v d ∧ tame d = true ∧ ∀ H', Same H H' → Q (.bl (isParD many d)) H'
def spLoop (K : PySem.W.Frag) : Sp := fun vs H Q _ => ∃ (v : V) (d : PyData) (many : Int), vs = [v, .int many] ∧ Dp K H v d ∧ tame d = true ∧ d.canLay0 = true ∧ ∀ H', Same H H' → Q (.bl (isLoopD many d)) H'
theorem par_no {many : Int} {d : PyData} (e : isK d "tuple" = false) : isParD many d = false := by
  cases d <;> first | rfl | exact absurd (show isK (.tuple []) "tuple" = false from e) (by decide +kernel)
theorem loop_no {many : Int} {d : PyData} (e : isK d "tuple" = false) : isLoopD many d = false := by
  cases d <;> first | rfl | exact absurd (show isK (.tuple []) "tuple" = false from e) (by decide +kernel)
section
variable {P : Program} {w : World} {K : PySem.W.Frag} {mg : Str → Option Value} {base : Heap}
abbrev sPar : Stmt := top 13
theorem scPar : FnScope ["value", "many", "one", "other", "parent"] ["value", "many"] (defScope sPar) := ⟨rfl, rfl, rfl, by decide +kernel, rfl, by decide +kernel, by decide +kernel⟩
theorem ok_Par {f : Addr} {fd : FuncData} (F : Fun K "is_parents" "is_parents" sPar f fd) (B : Bl mg) {fn : Addr} {fdn : FuncData} (Gn : FnOk P w K mg base CX0 2 fn fdn ["value", "many"] (spNum K)) (gn : mg "is_number" = some (.ref fn)) (kn : PySem.W.keepIn K (.ref fn) = true) (bn : Binds K fdn ["value", "many"] []) : FnOk P w K mg base CX0 3 f fd ["value", "many"] (spPar K) := by
  refine F.ok scPar (fun vs H Q E h => ?_) (fun cdv A outer s H vs Q E hr h => ?_)
  · obtain ⟨v, d, many, rfl, _⟩ := h
    rfl
  · obtain ⟨v, d, many, rfl, h1, tm, k⟩ := h
    refine ⟨_, pss_cons (ps_if (pt_not (pt_val (pe_callB call_isi (by rfl) (B "isinstance" (by decide)) (by decide +kernel) (pa_cons (pv 0) (pa_cons (pe_bltn (v := .ty "tuple") rfl (B "tuple" (by decide)) (by decide +kernel) rfl) pa_nil))))) (pss_one (ps_ret pe_bl)) pss_nil)
      (pss_cons (ps_if (pt_not (pt_val (pe_callB (cr_all rfl) (by rfl) (B "all" (by decide)) (by decide +kernel) (pa_cons (pe_lc (own := [("parent", 4)]) (g := gName 4) (tt := tYes) rfl scPar.nd (pi_tup (pv 0)) (blkOk_by (N := ["value", "many", "one", "other", "parent"]) (sc := defScope sPar) (by decide +kernel)) (fun _ _ _ _ _ => pg_name (i := 4) scPar.nd rfl (Or.inl rfl)) (fun _ _ _ _ _ => pts_nil) (fun _ _ _ _ _ => pe_call (E := E0) Gn (hr.mono (by decide)) rfl gn kn bn .nil pass0 (pa_cons (pv 4) (pa_cons (pv 1) pa_nil)))) pa_nil)))) (pss_one (ps_ret pe_bl)) pss_nil)
      (pss_one (ps_ret (pe_callB (cr_all rfl) (by rfl) (B "all" (by decide)) (by decide +kernel) (pa_cons (pe_lc (own := [("one", 2), ("other", 3)]) (g := gTup K 2 (gCons (gName 2) (gCons (gName 3) gNil))) (tt := tYes) rfl scPar.nd (RZ.pi_zipA (by rfl) (B "zip" (by decide)) (pa_cons (pv 0) (pa_cons (pe_slice sl_tupA (pv 0) (po_some pe_int) po_none) pa_nil))) (blkOk_by (N := ["value", "many", "one", "other", "parent"]) (sc := defScope sPar) (by decide +kernel)) (fun _ _ _ _ _ => pg_tup rfl (pgs_cons (pg_name (i := 2) scPar.nd rfl (Or.inl rfl)) (pgs_cons (pg_name (i := 3) scPar.nd rfl (Or.inl rfl)) pgs_nil))) (fun _ _ _ _ _ => pts_nil) (fun _ _ _ _ _ => pe_cmpR op_lt (pv 2) (pv 3) (nomark _))) pa_nil))))), ?_⟩
    refine ⟨_, rfl, _, _, _, _, _, rfl, .ty "tuple", dp_ty h1, kit_d h1 "tuple" (by decide), _, rfl, ?_⟩
    cases e : isK d "tuple" with
    | false =>
      refine LK.ifT rfl ?_
      have := k H (Same.refl H)
      rwa [par_no e] at this
    | true =>
      obtain ⟨a, xs, ds, rfl, rfl, hs, hd⟩ := tup_of h1 e
      have ln : ds.length ≤ 1000 := by
        rw [tame, Bool.and_eq_true] at tm
        exact of_decide_eq_true tm.1
      have xl := dps_len hd
      refine LK.ifF rfl ⟨_, rfl, a, rfl, ⟨xs, hs⟩, fun D nD => ?_⟩
      refine lc_tup (K := K) (a := a) (xs := xs) (fun j H' => H' D = some (.lst (((ds.take j).map (isNumD many)).map V.bl)) ∧ Same H H') ⟨upd_same, same_new nD⟩ (fun i H' hi hh => same_tup hh.2 hs) (fun j x H' hx hh => ⟨rfl, ?_⟩) (fun H' hh => ?_)
      · obtain ⟨hD, s1⟩ := hh
        obtain ⟨x', d, hx', hd', dx⟩ := dps_at hd (i := j) (by rw [← xl]; exact (List.getElem?_eq_some_iff.mp hx).1)
        obtain rfl : x = x' := by
          rw [hx] at hx'
          exact Option.some.inj hx'
        refine ⟨_, rfl, _, rfl, x, d, many, rfl, dp_same s1 dx, fun H2 s4 => ⟨_, s4 _ _ hD, ?_, ?_, fun b o eb => ?_⟩⟩
        · rw [List.length_map, List.length_map, List.length_take]
          exact Nat.lt_of_lt_of_le (by omega : _ < 2000) (by decide)
        · rw [upd_same, List.take_succ, hd', List.map_append, List.map_append]
          rfl
        · rw [upd_ne (ne_of_none eb nD)]
          exact s4 b o (s1 b o eb)
      · obtain ⟨hD, s1⟩ := hh
        rw [xl, List.take_length] at hD
        refine ⟨D, _, rfl, SqL.of hD, _, rfl, ?_⟩
        rw [List.all_map]
        show (fun b H1 => if b = true then _ else _) (!(ds.all (isNumD many))) H'
        cases e1 : ds.all (isNumD many) with
        | false =>
          refine LK.ifT rfl ?_
          have := k H' s1
          rw [isParD, e1, Bool.false_and] at this
          exact this
        | true =>
          refine LK.ifF rfl ?_
          have s1' := s1
          obtain ⟨ns, n1, n2⟩ := nums_take (many := many) (k := ds.length) hd fun j hj d e => List.all_eq_true.mp e1 d (List.mem_of_getElem? e)
          rw [List.take_length] at n2
          rw [← xl, List.take_length] at n1
          subst n1
          subst n2
          refine ⟨_, rfl, _, rfl, 1, rfl, a, _, rfl, same_tup s1 hs, fun hw => ?_, fun hw p np => ?_⟩
          · have n0 : ns = [] := by
              have := hw.1
              rw [show HT.sIx (ns.map V.int).length 0 (some 1) = min 1 (ns.map V.int).length from HT.sIx_nat _ _ 1, List.length_map] at this
              exact List.length_eq_zero_iff.mp (by omega)
            have s2 := s1
            have hb : SqT K H' a ((ns.map V.int).drop 1) := by
              subst n0
              exact same_tup s1 hs
            refine ⟨a, a, _, _, rfl, .inr ⟨same_tup s2 hs, hb, fun D2 nD2 => ?_⟩⟩
            refine lc_zipT (K := K) (xs := ns.map V.int) (ys := (ns.map V.int).drop 1) (by rw [List.length_drop]; omega) (fun j H' => H' D2 = some (.lst (((List.range j).map (ltAt (ns.map PyData.int))).map V.bl)) ∧ Same H H' ∧ SqT K H' a ((ns.map V.int).drop 1)) ⟨upd_same, fun b o e => same_new nD2 b o (s2 b o e), same_tup (same_new nD2) hb⟩ (fun j H' hh => ⟨same_tup hh.2.1 hs, hh.2.2⟩) (fun j x y T H2 hx hy hh nT => ?_) (fun H2 hh => ?_)
            · obtain ⟨hD2, s3, hb3⟩ := hh
              rw [List.getElem?_drop, List.getElem?_map] at hy
              rw [List.getElem?_map] at hx
              obtain ⟨p1, q1, rfl⟩ := Option.map_eq_some_iff.mp hx
              obtain ⟨p2, q2, rfl⟩ := Option.map_eq_some_iff.mp hy
              rw [Nat.add_comm] at q2
              have s4 := same_new (o := .tup [.int p1, .int p2]) nT
              have jl : j < ns.length := (List.getElem?_eq_some_iff.mp q1).1
              have lt : ltAt (ns.map PyData.int) j = decide (p1 < p2) := by
                unfold ltAt
                rw [List.getElem?_map, List.getElem?_map, q1, q2]
                rfl
              have nl : ns.length ≤ 1000 := by
                rw [List.length_map] at ln
                exact ln
              have e2 := s4 _ _ hD2
              refine ⟨T, _, rfl, .inl (.inl upd_same), rfl, _, _, rfl, _, _, rfl, rfl, rfl, ?_⟩
              refine ⟨_, rfl, _, rfl, p1, p2, rfl, rfl, _, e2, ?_, ?_, fun b o eb => ?_, ?_⟩
              · rw [List.length_map, List.length_map, List.length_range]
                exact Nat.lt_of_lt_of_le (by omega : _ < 2000) (by decide)
              · rw [upd_same, List.range_succ, List.map_append, List.map_append]
                show _ = some (HO.lst (_ ++ [V.bl (ltAt (ns.map PyData.int) j)]))
                rw [lt]
              · by_cases eD : b = D2
                · subst eD
                  exact absurd (s2 _ _ eb) (by rw [nD2]; exact fun z => nomatch z)
                · rw [upd_ne eD]
                  exact s4 b o (s3 b o eb)
              · exact sqT_tk (Tk.own e2) (same_tup s4 hb3)
            · obtain ⟨hD2, s3, hb3⟩ := hh
              refine ⟨D2, _, rfl, SqL.of hD2, ?_⟩
              have := k H2 s3
              rw [isParD, e1, Bool.true_and, rise] at this
              rw [List.all_map]
              rw [List.length_map] at this
              rw [List.length_drop, List.length_map]
              exact this
          · have s2 : Same H (L2.upd H' p (.tup (cutV (ns.map V.int) (some 1) none))) := fun b o e => same_new (o := .tup (cutV (ns.map V.int) (some 1) none)) np b o (s1 b o e)
            have cd : cutV (ns.map V.int) (some 1) none = (ns.map V.int).drop 1 := by
              unfold cutV
              rw [show HT.sIx (ns.map V.int).length 0 (some 1) = min 1 (ns.map V.int).length from HT.sIx_nat _ _ 1, HT.sIx_none]
              cases ns with
              | nil => rfl
              | cons n r =>
                rw [show min 1 ((n :: r).map V.int).length = 1 by simp]
                exact List.take_of_length_le (by simp)
            have hb : SqT K (L2.upd H' p (.tup (cutV (ns.map V.int) (some 1) none))) p ((ns.map V.int).drop 1) := by
              refine .inl (.inl ?_)
              rw [upd_same, cd]
            refine ⟨a, p, _, _, rfl, .inr ⟨same_tup s2 hs, hb, fun D2 nD2 => ?_⟩⟩
            refine lc_zipT (K := K) (xs := ns.map V.int) (ys := (ns.map V.int).drop 1) (by rw [List.length_drop]; omega) (fun j H' => H' D2 = some (.lst (((List.range j).map (ltAt (ns.map PyData.int))).map V.bl)) ∧ Same H H' ∧ SqT K H' p ((ns.map V.int).drop 1)) ⟨upd_same, fun b o e => same_new nD2 b o (s2 b o e), same_tup (same_new nD2) hb⟩ (fun j H' hh => ⟨same_tup hh.2.1 hs, hh.2.2⟩) (fun j x y T H2 hx hy hh nT => ?_) (fun H2 hh => ?_)
            · obtain ⟨hD2, s3, hb3⟩ := hh
              rw [List.getElem?_drop, List.getElem?_map] at hy
              rw [List.getElem?_map] at hx
              obtain ⟨p1, q1, rfl⟩ := Option.map_eq_some_iff.mp hx
              obtain ⟨p2, q2, rfl⟩ := Option.map_eq_some_iff.mp hy
              rw [Nat.add_comm] at q2
              have s4 := same_new (o := .tup [.int p1, .int p2]) nT
              have jl : j < ns.length := (List.getElem?_eq_some_iff.mp q1).1
              have lt : ltAt (ns.map PyData.int) j = decide (p1 < p2) := by
                unfold ltAt
                rw [List.getElem?_map, List.getElem?_map, q1, q2]
                rfl
              have nl : ns.length ≤ 1000 := by
                rw [List.length_map] at ln
                exact ln
              have e2 := s4 _ _ hD2
              refine ⟨T, _, rfl, .inl (.inl upd_same), rfl, _, _, rfl, _, _, rfl, rfl, rfl, ?_⟩
              refine ⟨_, rfl, _, rfl, p1, p2, rfl, rfl, _, e2, ?_, ?_, fun b o eb => ?_, ?_⟩
              · rw [List.length_map, List.length_map, List.length_range]
                exact Nat.lt_of_lt_of_le (by omega : _ < 2000) (by decide)
              · rw [upd_same, List.range_succ, List.map_append, List.map_append]
                show _ = some (HO.lst (_ ++ [V.bl (ltAt (ns.map PyData.int) j)]))
                rw [lt]
              · by_cases eD : b = D2
                · subst eD
                  exact absurd (s2 _ _ eb) (by rw [nD2]; exact fun z => nomatch z)
                · rw [upd_ne eD]
                  exact s4 b o (s3 b o eb)
              · exact sqT_tk (Tk.own e2) (same_tup s4 hb3)
            · obtain ⟨hD2, s3, hb3⟩ := hh
              refine ⟨D2, _, rfl, SqL.of hD2, ?_⟩
              have := k H2 s3
              rw [isParD, e1, Bool.true_and, rise] at this
              rw [List.all_map]
              rw [List.length_map] at this
              rw [List.length_drop, List.length_map]
              exact this
end
end X6
namespace X6
open PySem PySem.Spec PyProof.Rows L2 LK RZ
theorem lay_mem : ∀ {ds : List PyData} {d : PyData}, PyData.canLayAll0 ds = true → d ∈ ds → d.canLay0 = true
  | x :: r, d, h, e => by
    rw [PyData.canLayAll0, Bool.and_eq_true] at h
    rcases List.mem_cons.mp e with rfl | e
    · exact h.1
    · exact lay_mem h.2 e
theorem loop_two {number : Int} {ds : List PyData} (h : ds.length ≠ 2) : isLoopD number (.tuple ds) = false := by
  match ds, h with
  | [], _ => rfl
  | [_], _ => rfl
  | [_, _], h => exact absurd rfl h
  | _ :: _ :: _ :: _, _ => rfl
theorem dps_two {K : PySem.W.Frag} {H : Hp} {xs : List V} {ds : List PyData} (h : DpAll K H xs ds) (l : ds.length = 2) : ∃ x y d e, xs = [x, y] ∧ ds = [d, e] ∧ Dp K H x d ∧ Dp K H y e := by
  cases h with
  | nil => cases l
  | cons a r =>
    cases r with
    | nil => cases l
    | cons b r =>
      cases r with
      | nil => exact ⟨_, _, _, _, rfl, rfl, a, b⟩
      | cons _ _ => simp at l
section
variable {P : Program} {w : World} {K : PySem.W.Frag} {mg : Str → Option Value} {base : Heap}
abbrev sIsLoop : Stmt := top 14
theorem scIsLoop : FnScope ["value", "number", "thread", "parents"] ["value", "number"] (defScope sIsLoop) := ⟨rfl, rfl, rfl, by decide +kernel, rfl, by decide +kernel, by decide +kernel⟩
theorem ok_IsLoop {f : Addr} {fd : FuncData} (F : Fun K "is_loop" "is_loop" sIsLoop f fd) (B : Bl mg) {ft : Addr} {fdt : FuncData} (Gt : FnOk P w K mg base CX0 1 ft fdt ["value"] (spThr K)) (gt : mg "is_thread" = some (.ref ft)) (kt : PySem.W.keepIn K (.ref ft) = true) (bt : Binds K fdt ["value"] []) {fp : Addr} {fdp : FuncData} (Gp : FnOk P w K mg base CX0 3 fp fdp ["value", "many"] (spPar K)) (gp : mg "is_parents" = some (.ref fp)) (kp : PySem.W.keepIn K (.ref fp) = true) (bp : Binds K fdp ["value", "many"] []) : FnOk P w K mg base CX0 4 f fd ["value", "number"] (spLoop K) := by
  refine F.ok scIsLoop (fun vs H Q E h => ?_) (fun cdv A outer s H vs Q E hr h => ?_)
  · obtain ⟨v, d, many, rfl, _⟩ := h
    rfl
  · obtain ⟨v, d, many, rfl, h1, tm, lay, k⟩ := h
    refine ⟨_, pss_cons (ps_if (PW.pt (pw_or (pt_not (pt_val (pe_callB call_isi (by rfl) (B "isinstance" (by decide)) (by decide +kernel) (pa_cons (pv 0) (pa_cons (pe_bltn (v := .ty "tuple") rfl (B "tuple" (by decide)) (by decide +kernel) rfl) pa_nil))))) (pw_or1 (pt_cmpR op_ne (pe_callB call_len_seq (by rfl) (B "len" (by decide)) (by decide +kernel) (pa_cons (pv 0) pa_nil)) pe_int (nomark _))))) (pss_one (ps_ret pe_bl)) pss_nil)
      (pss_cons (ps_asg (pv 0) (pg_tup rfl (pgs_cons (pg_name (i := 2) scIsLoop.nd rfl (Or.inl rfl)) (pgs_cons (pg_name (i := 3) scIsLoop.nd rfl (Or.inl rfl)) pgs_nil))))
      (pss_one (ps_ret (pe_and (pe_call (E := E0) Gt (hr.mono (by decide)) rfl gt kt bt .nil pass0 (pa_cons (pv 2) pa_nil)) (pe_one (pe_call (E := E0) Gp (hr.mono (by decide)) rfl gp kp bp .nil pass0 (pa_cons (pv 3) (pa_cons (pv 1) pa_nil)))))))), ?_⟩
    refine ⟨_, rfl, _, _, _, _, _, rfl, .ty "tuple", dp_ty h1, kit_d h1 "tuple" (by decide), _, rfl, ?_⟩
    have kk := k H (Same.refl H)
    cases e : isK d "tuple" with
    | false =>
      refine LK.ifT rfl (LK.ifT rfl ?_)
      rwa [loop_no e] at kk
    | true =>
      obtain ⟨a, xs, ds, rfl, rfl, hs, hd⟩ := tup_of h1 e
      rw [tame, Bool.and_eq_true] at tm
      have xl := dps_len hd
      have lay' : PyData.canLayAll0 ds = true := by simpa only [PyData.canLay0] using lay
      refine LK.ifF rfl ⟨_, rfl, a, xs, rfl, .inr hs, rfl, _, rfl, ?_⟩
      by_cases l2 : ds.length = 2
      · refine LK.ifF ?_ ?_
        · rw [xl, l2]
          decide
        obtain ⟨x, y, d1, d2, rfl, rfl, hx, hy⟩ := dps_two hd l2
        refine ⟨_, rfl, a, _, rfl, hs, rfl, _, _, rfl, _, _, rfl, rfl, ?_⟩
        have m1 : d1 ∈ [d1, d2] := by simp
        have m2 : d2 ∈ [d1, d2] := by simp
        refine ⟨_, rfl, x, d1, rfl, hx, tame_mem tm.2 m1, lay_mem lay' m1, fun H1 s1 => ⟨_, rfl, ?_⟩⟩
        cases e1 : isThrD d1 with
        | false =>
          refine LK.ifF rfl ?_
          have := k H1 s1
          rwa [isLoopD, e1, Bool.false_and] at this
        | true =>
          refine LK.ifT rfl ⟨_, rfl, _, rfl, y, d2, many, rfl, dp_same s1 hy, tame_mem tm.2 m2, fun H2 s2 => ?_⟩
          have := k H2 (fun b o e => s2 b o (s1 b o e))
          rwa [isLoopD, e1, Bool.true_and] at this
      · refine LK.ifT ?_ ?_
        · rw [xl]
          have : ¬ V.int (ds.length : Nat) = V.int 2 := fun z => by
            have := V.int.inj z
            omega
          simp [this]
        · rwa [loop_two l2] at kk
end
end X6
namespace X6
open PySem PySem.Spec PyProof.Rows L2 LK RZ
def loopBad (ds : List PyData) (k : Nat) : Bool := match ds[k]? with
  | some d => !isLoopD k d
  | none => false
def loopsFault : PyData → Option Int
  | .list ds => ((List.range ds.length).find? (loopBad ds)).map fun k : Nat => (k : Int)
  | _ => some (-1)
def spLoops (K : PySem.W.Frag) : Sp := fun vs H Q _ => ∃ (v : V) (d : PyData), vs = [v] ∧ Dp K H v d ∧ tame d = true ∧ d.canLay0 = true ∧ d.depth ≤ 50 ∧ ∀ H', Same H H' → Q (optV (loopsFault d)) H'
theorem loops_no {d : PyData} (e : isK d "list" = false) : loopsFault d = some (-1) := by
  cases d <;> first | rfl | exact absurd (show isK (.list []) "list" = false from e) (by decide +kernel)
theorem loopBad_at {ds : List PyData} {k : Nat} {d : PyData} (e : ds[k]? = some d) : loopBad ds k = !isLoopD k d := by
  unfold loopBad
  rw [e]
theorem thr_str {d : PyData} (h : isThrD d = true) : ∃ z, d = .str z := by
  cases d <;> first | exact ⟨_, rfl⟩ | exact absurd h (by simp [isThrD])
theorem depth_mem : ∀ {ds : List PyData} {d : PyData}, d ∈ ds → d.depth ≤ PyData.depthAll ds
  | x :: r, d, e => by
    simp only [PyData.depthAll]
    rcases List.mem_cons.mp e with rfl | e
    · omega
    · have := depth_mem e
      omega
theorem lay_filter (f : PyData → Bool) : ∀ {ds : List PyData}, PyData.canLayAll0 ds = true → PyData.canLayAll0 (ds.filter f) = true ∧ PyData.depthAll (ds.filter f) ≤ PyData.depthAll ds
  | [], _ => ⟨rfl, Nat.le_refl _⟩
  | x :: r, h => by
    rw [PyData.canLayAll0, Bool.and_eq_true] at h
    obtain ⟨a, b⟩ := lay_filter f h.2
    rw [List.filter_cons]
    split
    · constructor
      · rw [PyData.canLayAll0, h.1, a]
        rfl
      · simp only [PyData.depthAll]
        omega
    · refine ⟨a, ?_⟩
      simp only [PyData.depthAll]
      omega
theorem eqv_nilg (es : List PyData) : PyData.eqv (.list es) (.list []) = es.isEmpty := by
  cases es with
  | nil => rfl
  | cons y r => rfl
section
variable {P : Program} {w : World} {K : PySem.W.Frag} {mg : Str → Option Value} {base : Heap}
end
end X6
namespace X6
open PySem PySem.Spec PyProof.Rows L2 LK RZ
/-- what Cloth of d and e raises: the error's short name, its value -/
def dueD (d e : PyData) : Option (Str × Int) := match loopsFault d with
  | some i => some ("loops", i)
  | none => match d with
    | .list ds => (lotFault ds.length e).map fun i => (("fast" : Str), i)
    | _ => none
def spDue (K : PySem.W.Frag) : Sp := fun vs H Q _ => ∃ (v u : V) (d e : PyData), vs = [v, u] ∧ Dp K H v d ∧ Dp K H u e ∧ tame d = true ∧ d.canLay0 = true ∧ d.depth ≤ 50 ∧ tame e = true ∧
  (∀ H', Same H H' → dueD d e = none → Q .non H') ∧ ∀ H' p nm i, H p = none → Same H H' → H' p = some (.tup [.str nm, .int i]) → dueD d e = some (nm, i) → Q (.ref p) H'
theorem loops_none {d : PyData} (h : loopsFault d = none) : ∃ ds, d = .list ds := by
  cases d <;> first | exact ⟨_, rfl⟩ | exact absurd h (by simp [loopsFault])
section
variable {P : Program} {w : World} {K : PySem.W.Frag} {mg : Str → Option Value} {base : Heap}
end
end X6
namespace X6
open PySem PySem.Spec PyProof.Rows L2 L2H LK RZ MXb MXd MXe MXf
theorem _root_.L2.Fun.okC {P : Program} {w : World} {K : PySem.W.Frag} {mg : Str → Option Value} {base : Heap} {CX : CXT} {x qual : Str} {st : Stmt} {f : Addr} {fd : FuncData} {N ps : List Str} {k : Nat} {sp : Sp} (F : Fun K x qual st f fd) (S : FnScope N ps (defScope st))
    (len : ∀ vs H Q E, sp vs H Q E → vs.length = ps.length)
    (body : ∀ (cdv : Value) (A : Around) (outer : List Env) (s : Shared) (H : Hp) (vs : List V) (Q : VK) (E : XK), Room k (A.deeper (envOfC qual (defScope st) s.heap.objs.size f cdv)) → sp vs H Q E →
      ∃ t, PSs (cxOf CX P w K mg base N qual (defScope st) f cdv A outer s H E) (defBody st) t ∧ t { nx := fun _ H' => Q .non H', rt := Q } (start N vs) H) : FnOk P w K mg base CX (k + 1) f fd ps sp := by
  obtain ⟨oc, od, kV, doc, pm, an, cdv, ct, osl, rfl, lk, hcd⟩ := F.ex
  exact fn_of lk hcd S len fun A outer s H vs Q E room q => body cdv A outer s H vs Q E room q
abbrev sInit : Stmt := inClass (top 2) 0
/-- the error of class C, its value y, leaves -/
def Out (C : Addr) (H : Hp) (E : XK) (y : V) : Prop := ∀ (d : Addr) (H' : Hp), H d = none → Same H H' → H' d = some (.xd [("value", y)]) → E (.ref C) (some d) H'
def spChkF (K : PySem.W.Frag) (CF : Addr) : Sp := fun vs H Q E => ∃ (v : V) (d : PyData) (many : Int), vs = [v, .int many] ∧ Dp K H v d ∧ tame d = true ∧ (lotFault many d = none → ∀ H', Same H H' → Q .non H') ∧ ∀ i, lotFault many d = some i → Out CF H E (.int i)
def spChkL (K : PySem.W.Frag) (CL : Addr) : Sp := fun vs H Q E => ∃ (v : V) (d : PyData), vs = [v] ∧ Dp K H v d ∧ tame d = true ∧ d.canLay0 = true ∧ (loopsFault d = none → ∀ H', Same H H' → Q .non H') ∧ ∀ i, loopsFault d = some i → Out CL H E (.int i)
structure Ini (P : Program) (w : World) (K : PySem.W.Frag) (mg : Str → Option Value) (base : Heap) (fI : Addr) (fdI : FuncData) : Prop where
  ok : FnOk P w K mg base CX0 1 fI fdI ["self", "value"] (spInit K "value")
  bd : Bind1 K fdI "value"
section
variable {P : Program} {w : World} {K : PySem.W.Frag} {mg : Str → Option Value} {base : Heap} {fI CF CL : Addr} {fdI : FuncData}
theorem Out.go {C : Addr} {H H1 : Hp} {E : XK} {y : V} (o : Out C H E y) (s : Same H H1) : ∀ d, H1 d = none → E (.ref C) (some d) (upd H1 d (.xd [("value", y)])) := fun d nd => by
  refine o d _ ?_ (fun b u e => same_new nd b u (s b u e)) upd_same
  cases e : H d with
  | none => rfl
  | some u => rw [s _ _ e] at nd; cases nd
theorem scI : FnScope ["self", "value"] ["self", "value"] (defScope sInit) := ⟨rfl, rfl, rfl, by decide +kernel, rfl, by decide +kernel, by decide +kernel⟩
theorem ok_init {f : Addr} {fd : FuncData} (F : Fun K "__init__" "RunError.__init__" sInit f fd) : FnOk P w K mg base CX0 1 f fd ["self", "value"] (spInit K "value") := by
  refine F.ok scI (fun vs H Q E h => ?_) (fun cdv A outer s H vs Q E hr h => ?_)
  · obtain ⟨e, C, y, rfl, _⟩ := h
    rfl
  · obtain ⟨e, C, y, rfl, T, no, he, k⟩ := h
    exact ⟨_, pss_one (ps_ost (pv 0) (pv 1)), ⟨_, rfl, _, rfl, e, C, rfl, T, no, .inl ⟨he, k⟩⟩⟩
abbrev sChkF : Stmt := top 16
theorem scChkF : FnScope ["fast", "many", "index"] ["fast", "many"] (defScope sChkF) := ⟨rfl, rfl, rfl, by decide +kernel, rfl, by decide +kernel, by decide +kernel⟩
theorem ok_ChkF {f : Addr} {fd : FuncData} (F : Fun K "check_fast" "check_fast" sChkF f fd) (B : Bl mg) {fo : Addr} {fdo : FuncData} (Go : FnOk P w K mg base CX0 3 fo fdo ["numbers", "many"] (spLot K)) (go : mg "wrong_number" = some (.ref fo)) (ko : PySem.W.keepIn K (.ref fo) = true) (bo : Binds K fdo ["numbers", "many"] []) (I : Ini P w K mg base fI fdI) (TF : XC K mg fI CF "InvalidFast" "value") : FnOk P w K mg base (L2N.CX P w) 4 f fd ["fast", "many"] (spChkF K CF) := by
  refine F.okC scChkF (fun vs H Q E h => ?_) (fun cdv A outer s H vs Q E hr h => ?_)
  · obtain ⟨v, d, many, rfl, _⟩ := h
    rfl
  · obtain ⟨v, d, many, rfl, h1, tm, k1, k2⟩ := h
    refine ⟨_, pss_cons (ps_set (i := 2) scChkF.nd rfl (Or.inl rfl) (pe_call (E := E0) Go (hr.mono (by decide)) rfl go ko bo .nil pass0 (pa_cons (pv 0) (pa_cons (pv 1) pa_nil))))
      (pss_one (ps_if (pt_cmpR op_notN (pv 2) pe_non (nomark _)) (pss_one (L2N.ps_raise rfl (L2N.takes_of rfl rfl rfl rfl) (pmk1 TF I.ok I.bd (hr.mono (by decide)) rfl (pv 2)))) pss_nil)), ?_⟩
    refine ⟨_, rfl, _, rfl, v, d, many, rfl, h1, tm, fun H1 s1 => ?_⟩
    cases e1 : lotFault many d with
    | none => exact ⟨_, rfl, rfl, _, rfl, LK.ifF (show (!decide (V.non = V.non)) = false by simp) (k1 e1 H1 s1)⟩
    | some i =>
      refine ⟨_, rfl, rfl, _, rfl, LK.ifT (show (!decide (V.int i = V.non)) = true by simp) ?_⟩
      exact ⟨_, rfl, (k2 i e1).go s1⟩
abbrev sChkL : Stmt := top 15
theorem scChkL : FnScope ["loops", "number", "loop"] ["loops"] (defScope sChkL) := ⟨rfl, rfl, rfl, by decide +kernel, rfl, by decide +kernel, by decide +kernel⟩
theorem ok_ChkL {f : Addr} {fd : FuncData} (F : Fun K "check_loops" "check_loops" sChkL f fd) (B : Bl mg) {fo : Addr} {fdo : FuncData} (Go : FnOk P w K mg base CX0 4 fo fdo ["value", "number"] (spLoop K)) (go : mg "is_loop" = some (.ref fo)) (ko : PySem.W.keepIn K (.ref fo) = true) (bo : Binds K fdo ["value", "number"] []) (I : Ini P w K mg base fI fdI) (TL : XC K mg fI CL "InvalidLoops" "value") : FnOk P w K mg base (L2N.CX P w) 5 f fd ["loops"] (spChkL K CL) := by
  refine F.okC scChkL (fun vs H Q E h => ?_) (fun cdv A outer s H vs Q E hr h => ?_)
  · obtain ⟨v, d, rfl, _⟩ := h
    rfl
  · obtain ⟨v, d, rfl, h1, tm, lay, k1, k2⟩ := h
    refine ⟨_, pss_cons (ps_if (pt_not (pt_val (pe_callB call_isi (by rfl) (B "isinstance" (by decide)) (by decide +kernel) (pa_cons (pv 0) (pa_cons (pe_bltn (v := .ty "list") rfl (B "list" (by decide)) (by decide +kernel) rfl) pa_nil))))) (pss_one (L2N.ps_raise rfl (L2N.takes_of rfl rfl rfl rfl) (pmk1 TL I.ok I.bd (hr.mono (by decide)) rfl (pe_un un_neg pe_int)))) pss_nil)
      (pss_one (ps_for (passes_of rfl) rfl (pi_enum (by rfl) (B "enumerate" (by decide)) (pa_cons (pv 0) pa_nil)) (pg_tup rfl (pgs_cons (pg_name (i := 1) scChkL.nd rfl (Or.inl rfl)) (pgs_cons (pg_name (i := 2) scChkL.nd rfl (Or.inl rfl)) pgs_nil))) (pss_one (ps_if (pt_not (pt_val (pe_call (E := E0) Go (hr.mono (by decide)) rfl go ko bo .nil pass0 (pa_cons (pv 2) (pa_cons (pv 1) pa_nil))))) (pss_one (L2N.ps_raise rfl (L2N.takes_of rfl rfl rfl rfl) (pmk1 TL I.ok I.bd (hr.mono (by decide)) rfl (pv 1)))) pss_nil)))), ?_⟩
    refine ⟨_, rfl, _, _, _, _, _, rfl, .ty "list", dp_ty h1, kit_d h1 "list" (by decide), _, rfl, ?_⟩
    cases e : isK d "list" with
    | false =>
      refine LK.ifT rfl ⟨1, rfl, (k2 _ (loops_no e)).go (Same.refl H)⟩
    | true =>
      obtain ⟨a, xs, ds, rfl, rfl, hs, hd⟩ := list_of h1 e
      rw [tame, Bool.and_eq_true] at tm
      have lay' : PyData.canLayAll0 ds = true := by simpa only [PyData.canLay0] using lay
      have xl := dps_len hd
      refine LK.ifF rfl ⟨_, rfl, a, xs, rfl, hs, ?_⟩
      refine for_enum (xs := xs) (fun i σ H' => ∃ (o1 o2 : Option V), σ = [some (.ref a), o1, o2] ∧ (∀ k < i, loopBad ds k = false) ∧ Same H H')
        ⟨_, _, rfl, fun k h => absurd h (Nat.not_lt_zero _), Same.refl H⟩ (fun i σ H' h => h.choose_spec.choose_spec.2.2.seq hs) (fun i x T σ H' hx hI nT => ?_) (fun σ H' hI => ?_)
      · obtain ⟨o1, o2, rfl, hb, s1⟩ := hI
        obtain ⟨x', d, hx', hd', dx⟩ := dps_at hd (i := i) (by rw [← xl]; exact (List.getElem?_eq_some_iff.mp hx).1)
        obtain rfl : x = x' := by
          rw [hx] at hx'
          exact Option.some.inj hx'
        have il : i < ds.length := by
          rw [← xl]
          exact (List.getElem?_eq_some_iff.mp hx).1
        have dm : d ∈ ds := List.mem_of_getElem? hd'
        have s3 : Same H _ := fun b o e => same_new (o := .tup [.int (i : Nat), x]) nT b o (s1 b o e)
        refine ⟨T, _, rfl, .inl (.inl upd_same), rfl, _, _, rfl, _, _, rfl, rfl, ?_⟩
        refine ⟨_, rfl, _, rfl, x, d, (i : Int), rfl, dp_same s3 dx, tame_mem tm.2 dm, lay_mem lay' dm, fun H2 s4 => ⟨_, rfl, ?_⟩⟩
        have s5 : Same H H2 := fun b o e => s4 b o (s3 b o e)
        cases e1 : isLoopD i d with
        | false =>
          refine LK.ifT rfl ⟨_, rfl, (k2 (i : Int) ?_).go s5⟩
          rw [loopsFault, find_at il hb (by rw [loopBad_at hd', e1]; rfl)]
          rfl
        | true =>
          refine LK.ifF rfl ⟨_, _, rfl, fun k' hk' => ?_, s5⟩
          by_cases ek : k' = i
          · subst ek
            rw [loopBad_at hd', e1]
            rfl
          · exact hb k' (by omega)
      · obtain ⟨o1, o2, rfl, hb, s1⟩ := hI
        refine k1 ?_ H' s1
        rw [loopsFault, find_all (fun j hj => hb j (by omega))]
        rfl
end
end X6
namespace X6
open PySem PySem.Spec PyProof.Rows L2 L2H LK RZ MXb MXd MXe MXf
abbrev sClo : Stmt := inClass (top 18) 0
/-- all but p stays -/
def But (p : Addr) (H H' : Hp) : Prop := ∀ b o, b ≠ p → H b = some o → H' b = some o
/-- __init__ at x: what it raises, or the loops of its own and the sorted fast ones -/
def spClo (K : PySem.W.Frag) (CC CF CL : Addr) : Sp := fun vs H Q E => ∃ (x dx : Addr) (u v : V) (d e : PyData), vs = [.ref x, u, v] ∧ H x = some (.ins CC dx []) ∧ Cls K CC ∧ NoAttr K CC "_loops" ∧ NoAttr K CC "_fast" ∧ Dp K H u d ∧ Dp K H v e ∧ tame d = true ∧ d.canLay0 = true ∧ tame e = true ∧
  (∀ i, dueD d e = some (("loops" : Str), i) → Out CL H E (.int i)) ∧ (∀ i, dueD d e = some (("fast" : Str), i) → Out CF H E (.int i)) ∧
  ∀ (ds : List PyData) (ns ms : List Int) (L G : Addr) (H' : Hp) (xs : List V), dueD d e = none → d = .list ds → e = .list (ns.map PyData.int) → ms.Perm ns → ms.Pairwise (· ≤ ·) → H L = none → H G = none → L ≠ G → H' x = some (.ins CC dx [("_loops", .ref L), ("_fast", .ref G)]) → H' L = some (.lst xs) → DpAll K H xs ds → H' G = some (.lst (ms.map V.int)) → But x H H' → Q .non H'
theorem sql_but {K : PySem.W.Frag} {H H' : Hp} {x a C dx : Addr} {fs : List (Str × V)} {xs : List V} (hx : H x = some (.ins C dx fs)) (s : But x H H') (h : SqL K H a xs) : SqL K H' a xs := by
  rcases h with (h | ⟨o, h⟩) | h
  · exact .inl (.inl (s _ _ (ne_of h hx (by intro q; cases q)) h))
  · exact .inl (.inr ⟨o, s _ _ (ne_of h hx (by intro q; cases q)) h⟩)
  · exact .inr h
theorem But.of {x : Addr} {H H' : Hp} (s : Same H H') : But x H H' := fun b o _ e => s b o e
theorem But.trans {x : Addr} {H H1 H2 : Hp} (a : But x H H1) (b : But x H1 H2) : But x H H2 := fun c o n e => b c o n (a c o n e)
theorem But.put {x : Addr} {H : Hp} {o : HO} : But x H (L2.upd H x o) := fun b u n e => by
  rw [upd_ne n]
  exact e
theorem Out.more {C : Addr} {H H1 : Hp} {E : XK} {y : V} (o : Out C H E y) (s : Same H H1) : Out C H1 E y := fun d H' nd s' e => by
  refine o d H' ?_ (fun b u q => s' b u (s b u q)) e
  cases q : H d with
  | none => rfl
  | some u => rw [s _ _ q] at nd; cases nd
theorem lot_none {many : Int} {e : PyData} (h : lotFault many e = none) : ∃ es, e = .list es ∧ ∀ j < es.length, lotBad many es j = false := by
  cases e with
  | list es =>
    refine ⟨es, rfl, fun j hj => ?_⟩
    rw [lotFault] at h
    have h' : (List.range es.length).find? (lotBad many es) = none := by
      cases q : (List.range es.length).find? (lotBad many es) with
      | none => rfl
      | some k => rw [q] at h; cases h
    have := List.find?_eq_none.mp h' j (List.mem_range.mpr hj)
    simpa using this
  | _ => exact absurd h (by simp [lotFault])
section
variable {P : Program} {w : World} {K : PySem.W.Frag} {mg : Str → Option Value} {base : Heap} {CC CF CL : Addr}
theorem scClo : FnScope ["self", "loops", "fast"] ["self", "loops", "fast"] (defScope sClo) := ⟨rfl, rfl, rfl, by decide +kernel, rfl, by decide +kernel, by decide +kernel⟩
theorem ok_Clo {f fA fB : Addr} {fd fdA fdB : FuncData} (F : Fun K "__init__" "Cloth.__init__" sClo f fd) (B : Bl mg)
    (GA : FnOk P w K mg base (L2N.CX P w) 5 fA fdA ["loops"] (spChkL K CL)) (gA : mg "check_loops" = some (.ref fA)) (kA : PySem.W.keepIn K (.ref fA) = true) (bA : Binds K fdA ["loops"] [])
    (GB : FnOk P w K mg base (L2N.CX P w) 4 fB fdB ["fast", "many"] (spChkF K CF)) (gB : mg "check_fast" = some (.ref fB)) (kB : PySem.W.keepIn K (.ref fB) = true) (bB : Binds K fdB ["fast", "many"] []) :
    FnOk P w K mg base (L2N.CX P w) 6 f fd ["self", "loops", "fast"] (spClo K CC CF CL) := by
  refine F.okC scClo (fun vs H Q E h => ?_) (fun cdv A outer s H vs Q E hr h => ?_)
  · obtain ⟨x, dx, u, v, d, e, rfl, _⟩ := h
    rfl
  · obtain ⟨x, dx, u, v, d, e, rfl, hx, hc, nl, nf, hd, he, tm, lay, tme, k1, k2, k3⟩ := h
    refine ⟨_, pss_cons (ps_expr (pe_call (E := E) GA (hr.mono (by decide)) rfl gA kA bA .nil (L2N.passes_call (L2N.takes_of rfl rfl rfl rfl) (fun _ _ _ _ z => z)) (pa_cons (pv 1) pa_nil)))
      (pss_cons (ps_expr (pe_call (E := E) GB (hr.mono (by decide)) rfl gB kB bB .nil (L2N.passes_call (L2N.takes_of rfl rfl rfl rfl) (fun _ _ _ _ z => z)) (pa_cons (pv 2) (pa_cons (pe_callB call_len_seq (by rfl) (B "len" (by decide)) (by decide +kernel) (pa_cons (pv 1) pa_nil)) pa_nil))))
      (pss_cons (ps_fld (pv 0) (pe_callTy call_list_of (by rfl) (B "list" (by decide)) (by decide +kernel) (pa_cons (pv 1) pa_nil)) rfl)
      (pss_one (ps_fld (pv 0) (pe_callB L2.cr_sortedI (by rfl) (B "sorted" (by decide)) (by decide +kernel) (pa_cons (pv 2) pa_nil)) rfl)))), ?_⟩
    refine ⟨_, rfl, u, d, rfl, hd, tm, lay, fun e1 H1 s1 => ?_, fun i e1 => k1 i (by unfold dueD; rw [e1])⟩
    obtain ⟨ds, rfl⟩ := loops_none e1
    obtain ⟨a, xs, ds', rfl, e', hs, hds⟩ := list_of hd rfl
    cases e'
    have xl := dps_len hds
    have du : dueD (.list ds) e = (lotFault ds.length e).map fun i => (("fast" : Str), i) := by
      unfold dueD
      rw [e1]
    refine ⟨_, rfl, _, rfl, a, xs, rfl, .inl (s1.seq hs), v, e, _, rfl, dp_same s1 he, tme, fun e2 H2 s2 => ?_, fun i e2 => ?_⟩
    · rw [xl] at e2
      rw [e2] at du
      have s3 : Same H H2 := fun b o q => s2 b o (s1 b o q)
      obtain ⟨es, rfl, hb⟩ := lot_none e2
      obtain ⟨b, ys, es', rfl, e', hys, hes⟩ := list_of he rfl
      cases e'
      obtain ⟨ns, n1, n2⟩ := nums_take (many := ds.length) (k := es.length) hes fun j hj d q => bad_num (hb j hj) q
      rw [List.take_length] at n2
      rw [← dps_len hes, List.take_length] at n1
      subst n1
      subst n2
      refine ⟨_, rfl, a, xs, rfl, .inl (s3.seq hs), fun L nL => ?_⟩
      have s4 := same_new (o := .lst xs) nL
      have x4 := s4 _ _ (s3 _ _ hx)
      refine ⟨_, rfl, x, CC, dx, [], rfl, x4, hc, nl, by decide, ?_⟩
      have b5 : But x H (L2.upd (L2.upd H2 L (.lst xs)) x (.ins CC dx (putF "_loops" (.ref L) []))) := (But.of fun b o q => s4 b o (s3 b o q)).trans But.put
      refine ⟨_, rfl, b, ns, rfl, sql_but hx b5 hys, fun ms G perm pw nG => ?_⟩
      have xG : x ≠ G := ne_of_none upd_same nG
      have b6 : But x H (L2.upd (L2.upd (L2.upd H2 L (.lst xs)) x (.ins CC dx (putF "_loops" (.ref L) []))) G (.lst (ms.map V.int))) := b5.trans (But.of (same_new nG))
      have x6 := (upd_ne (H := L2.upd (L2.upd H2 L (.lst xs)) x (.ins CC dx (putF "_loops" (.ref L) []))) (o := .lst (ms.map V.int)) xG).trans upd_same
      refine ⟨_, rfl, x, CC, dx, _, rfl, x6, hc, nf, (by show 1 < 1000; decide), ?_⟩
      have nL0 : H L = none := by
        cases q : H L with
        | none => rfl
        | some o => rw [s3 _ _ q] at nL; cases nL
      have Lx : L ≠ x := (ne_of_none (s3 _ _ hx) nL).symm
      have eL5 : (L2.upd (L2.upd H2 L (.lst xs)) x (.ins CC dx (putF "_loops" (.ref L) []))) L = some (.lst xs) := by
        rw [upd_ne Lx]
        exact upd_same
      have LG : L ≠ G := ne_of_none eL5 nG
      have nG0 : H G = none := by
        cases q : H G with
        | none => rfl
        | some o => rw [b5 _ _ (Ne.symm xG) q] at nG; cases nG
      refine k3 ds ns ms L G _ xs (du.trans rfl) rfl rfl perm pw nL0 nG0 LG ?_ ?_ hds ?_ (b6.trans But.put)
      · rw [upd_same]
        rfl
      · rw [upd_ne Lx, upd_ne LG]
        exact eL5
      · rw [upd_ne (Ne.symm xG)]
        exact upd_same
    · rw [xl] at e2
      rw [e2] at du
      exact (k2 i du).more s1
end
end X6
/-! xs[1::-1]: the first two of a list, the second one ahead. -/
namespace MXo
open PySem PySem.Spec PyProof.Rows L2
section
variable {X : Cx}
def tRev1 (K : PySem.W.Frag) (te : TE) : TE := fun σ H Q => te σ H fun x H1 => ∃ a u v r, x = .ref a ∧ SqL K H1 a (u :: v :: r) ∧ ∀ p, H1 p = none → Q (.ref p) (upd H1 p (.lst [v, u]))
theorem pick1 (u v : Value) (r : List Value) : slicePick (u :: v :: r).toArray (some 1) none (some (-1)) = #[v, u] := by
  unfold slicePick
  have e : sliceBounds (some 1) none (some (-1)) (u :: v :: r).toArray.size = (1, -1, -1) := by
    unfold sliceBounds
    simp only [Option.getD_some, List.size_toArray, List.length_cons]
    have : max (-1) (min (1 : Int) (((r.length + 1 + 1 : Nat) : Int) - 1)) = 1 := by omega
    simp [this]
    omega
  rw [e]
  rfl
theorem pe_rev1 {e : Expr} {te : TE} {k k1 : Nat} {p0 p1 p2 p3 pos : Pos} (he : PE X e te) : PE X (.Subscript e (.Slice (some (.Constant (.int 1) k1 p0)) none (some (.UnaryOp .USub (.Constant (.int 1) k p1) p2)) p3) pos) (tRev1 X.K te) := by
  refine ⟨fun pins s σ H Q I h => ?_⟩
  refine Subscript_ (thn (he.run pins s σ H _ I h) fun v s1 ⟨x, H1, I1, r1, q1⟩ => ?_)
  obtain ⟨a, y0, y1, xr, ex, hx, q⟩ := q1
  subst ex
  cases r1
  have hlo : PO X (some (.Constant (.int 1) k1 p0)) (tPart (tC (.int 1))) := po_some pe_int
  have hst : PO X (some (.UnaryOp .USub (.Constant (.int 1) k p1) p2)) (tPart (tUn (rU fun i => .int (-i)) (tC (.int 1)))) := po_some (pe_un un_neg pe_int)
  refine wpAny_Slice (thn (hlo.run pins s1 σ H1 (fun o H2 => o = some 1 ∧ H2 = H1) I1 ⟨1, rfl, rfl, rfl⟩) fun vl s2 ⟨l, H2, I2, pl, el, e2⟩ => ?_)
  subst el e2
  refine thn (po_none.run pins s2 σ H2 (fun o H3 => o = none ∧ H3 = H2) I2 ⟨rfl, rfl⟩) fun vu s3 ⟨u, H3, I3, pu, eu, e3⟩ => ?_
  subst eu e3
  refine thn (hst.run pins s3 σ H3 (fun o H4 => o = some (-1) ∧ H4 = H3) I3 ⟨1, rfl, -1, rfl, rfl, rfl⟩) fun vs s4 ⟨o, H4, I4, ps, eo, e4⟩ => ?_
  subst eo e4
  have I5 : Inv X pins σ H4 { s4 with heap := s4.heap.push { cls := .type "slice", data := .fields #[vl, vu, vs] } } := I4.kept (t' := s4.toks) fun b ob q => Heap.get?_push_of_some _ q
  obtain ⟨its, r, ht, hz⟩ := I5.list hx
  have hlen := r.length
  show wpAny (model X.prog X.w) X.A (subscriptTail e (.Slice (some (.Constant (.int 1) k1 p0)) none (some (.UnaryOp .USub (.Constant (.int 1) k p1) p2)) p3) (.ref a) (.ref s4.heap.objs.size)) (EP X pins σ Q) X.xe { s4 with heap := s4.heap.push { cls := .type "slice", data := .fields #[vl, vu, vs] } }
  refine tail_any (ops := [.ref a, .ref s4.heap.objs.size]) ht.isList.typeIs (PySem.slot_list_getitem.lookup) ?_ (by with_unfolding_all rfl)
  refine wpAny_getItem_list_slice ht.isList (Heap.IsSliceOf.new _ vl vu vs) pl pu ps (by decide) ?_ (by rw [List.size_toArray]; omega)
  cases r with
  | cons r0 r' =>
    cases r' with
    | cons r1 r2 =>
      rw [pick1]
      refine ⟨.ref _, _, I5.laid (t' := s4.toks) (o := .lst [y1, y0]) (fun b ob q => Heap.get?_push_of_some _ q) (Nat.le_refl _) ?_, rfl, q _ (I5.hok.fresh (Nat.le_refl _))⟩
      exact ⟨by show 2 ≤ sizeLine; decide, _, 0, .cons r1 (.cons r0 .nil), Heap.get?_push_size _ rfl⟩
end
end MXo
/-! _law_row_done answers rowD. -/
namespace X6
open PySem PySem.Spec PyProof.Rows L2 LK MXo
abbrev sRow : Stmt := top 34
theorem scRow : FnScope ["loops_here", "fast_here", "needle_here", "course", "number", "yarn", "stitches_here", "made", "tied", "done", "left", "link", "k", "stitch_here", "need", "through", "turn"] ["loops_here", "fast_here", "needle_here", "course", "number"] (defScope sRow) := ⟨rfl, rfl, rfl, by decide +kernel, rfl, by decide +kernel, by decide +kernel⟩
abbrev cou (y : Str) (qs : List Sti) : PyData := .tuple [.str y, .tuple (qs.map stiD)]
/-- a state as it is told: all of it new since H0 -/
def Told3 (K : PySem.W.Frag) (H0 H : Hp) (v : V) (st : St3) : Prop := ∃ (t L T D : Addr) (xs : List V), v = .ref t ∧ H0 L = none ∧ H0 T = none ∧ H0 D = none ∧ H t = some (.tup [.ref L, .ref T, .ref D]) ∧ H L = some (.lst xs) ∧ DpAll K H xs (st.1.map lpD) ∧ H T = some (.lst (st.2.1.map V.int)) ∧ H D = some (.lst (st.2.2.map V.int))
def spRow (K : PySem.W.Frag) : Sp := fun vs H Q _ => ∃ (la fa na co : Addr) (number : Int) (xs : List V) (st : St3) (y : Str) (qs : List Sti), vs = [.ref la, .ref fa, .ref na, .ref co, .int number] ∧ SqL K H la xs ∧ DpAll K H xs (st.1.map lpD) ∧ SqL K H fa (st.2.1.map V.int) ∧ SqL K H na (st.2.2.map V.int) ∧ Dp K H (.ref co) (cou y qs) ∧
  st.1.length ≤ 10000 ∧ st.2.1.length ≤ 10000 ∧ st.2.2.length ≤ 10000 ∧ qs.length ≤ 1000 ∧ (∀ q ∈ qs, smallQ q) ∧
  ∀ (v : V) (H' : Hp), Same H H' → (∀ st', rowD y qs st = some st' → Told3 K H H' v st') → (rowD y qs st = none → ∃ t a b, v = .ref t ∧ H' t = some (.tup [a, b])) → Q v H'
/-- a row under way -/
structure Rwy (K : PySem.W.Frag) (H Hn : Hp) (L T D F : Addr) (xs : List V) (s : Sw) : Prop where
  nL : H L = none
  nT : H T = none
  nD : H D = none
  sm : Same H Hn
  eL : Hn L = some (.lst xs)
  dL : DpAll K Hn xs (s.ls.map lpD)
  eT : Hn T = some (.lst (s.ti.map V.int))
  eD : Hn D = some (.lst (s.dn.map V.int))
  eF : Hn F = some (.lst (s.lf.map V.int))
  TL : T ≠ L
  DL : D ≠ L
  FL : F ≠ L
theorem gone {H H1 : Hp} {p : Addr} (s : Same H H1) (n : H1 p = none) : H p = none := by
  cases e : H p with
  | none => rfl
  | some o => rw [s _ _ e] at n; cases n
theorem cut_drop {xs : List V} {i : Nat} : cutV xs (some (i : Int)) none = xs.drop i := by
  unfold cutV
  rw [HT.sIx_nat, HT.sIx_none]
  rcases Nat.le_total i xs.length with h | h
  · rw [Nat.min_eq_left h, List.take_of_length_le (by rw [List.length_drop]; omega)]
  · rw [Nat.min_eq_right h, List.drop_eq_nil_of_le (Nat.le_refl _), List.drop_eq_nil_of_le h, List.take_nil]
theorem cut_to {xs : List V} {i : Nat} : cutV xs none (some (i : Int)) = xs.take i := by
  unfold cutV
  rw [HT.sIx_nat, HT.sIx_none]
  rcases Nat.le_total i xs.length with h | h
  · rw [Nat.min_eq_left h]
    rfl
  · rw [Nat.min_eq_right h, List.take_of_length_le h, Nat.sub_zero, List.drop_zero, List.take_of_length_le (Nat.le_refl _)]
theorem cut_last {xs : List V} : cutV xs none (some (-1)) = xs.dropLast := by
  unfold cutV
  rw [HT.sIx_none]
  have e : HT.sIx xs.length xs.length (some (-1)) = xs.length - 1 := by
    show (if (-1 : Int) < 0 then ((-1 : Int) + (xs.length : Int)).toNat else min (-1 : Int).toNat xs.length) = _
    rw [if_pos (by decide)]
    omega
  rw [e, List.drop_zero, List.dropLast_eq_take, Nat.sub_zero]
theorem sh_sti (q : Sti) : SeqAt.shaped (stiD q) = true := by
  cases q <;> refine shaped_of ?_ (by simp [stiD, PyData.depth, PyData.depthAll]) <;> simp only [stiD, PyData.canLay0, PyData.canLayAll0] <;> decide +kernel
structure Bnd (n : Nat) (s : Sw) : Prop where
  ls : s.ls.length ≤ n
  ti : s.ti.length ≤ n
  dn : s.dn.length ≤ n
  lf : s.lf.length ≤ n
theorem Bnd.step {n : Nat} {y : Str} {q : Sti} {s : Sw} (h : Bnd n s) (sm : smallQ q) : Bnd (n + 3) (doneS y q s) := by
  obtain ⟨h1, h2, h3, h4⟩ := h
  cases q with
  | crs => 
    refine ⟨by show s.ls.length ≤ _; omega, by show s.ti.length ≤ _; omega, by show s.dn.length ≤ _; omega, ?_⟩
    show ((s.lf.take 2).reverse ++ s.lf.drop 2).length ≤ _
    rw [List.length_append, List.length_reverse, List.length_take, List.length_drop]
    omega
  | pas =>
    refine ⟨by show s.ls.length ≤ _; omega, by show s.ti.length ≤ _; omega, ?_, ?_⟩
    · show (s.dn ++ s.lf.take 1).length ≤ _
      rw [List.length_append, List.length_take]
      omega
    · show (s.lf.drop 1).length ≤ _
      rw [List.length_drop]
      omega
  | chn =>
    refine ⟨?_, by show s.ti.length ≤ _; omega, ?_, ?_⟩
    · show (s.ls ++ [_]).length ≤ _
      rw [List.length_append, List.length_singleton]
      omega
    · show ((match s.lk with | none => s.dn | some _ => s.dn.dropLast) ++ [(s.ls.length : Int)]).length ≤ _
      rw [List.length_append, List.length_singleton]
      cases s.lk with
      | none => dsimp only; omega
      | some v => dsimp only; rw [List.length_dropLast]; omega
    · show (s.lf.drop 1).length ≤ _
      rw [List.length_drop]
      omega
  | st j k =>
    obtain ⟨sj, sk⟩ : j ≤ 3 ∧ k ≤ 3 := sm
    refine ⟨?_, ?_, ?_, ?_⟩
    · show (knit y (srt (s.lf.take j)) k (s.ls, s.dn)).1.length ≤ _
      rw [knit_len]
      show s.ls.length + k ≤ _
      omega
    · show (if k = 0 then s.ti ++ s.lf.take j else s.ti).length ≤ _
      split
      · rw [List.length_append, List.length_take]
        omega
      · omega
    · show (knit y (srt (s.lf.take j)) k (s.ls, s.dn)).2.length ≤ _
      rw [knit_dn, List.length_append, List.length_map, List.length_range]
      show s.dn.length + k ≤ _
      omega
    · show (s.lf.drop j).length ≤ _
      rw [List.length_drop]
      omega
theorem Rwy.nw {K : PySem.W.Frag} {H Hn : Hp} {L T D F p : Addr} {xs : List V} {s : Sw} (h : Rwy K H Hn L T D F xs s) (n : Hn p = none) : H p = none ∧ p ≠ L :=
  ⟨gone h.sm n, (ne_of_none h.eL n).symm⟩
theorem Rwy.go {K : PySem.W.Frag} {H Hn Hn' : Hp} {L T D F T' D' F' : Addr} {xs : List V} {s : Sw} {ti dn lf : List Int} {lk : Option Int} (h : Rwy K H Hn L T D F xs s) (sm : Same Hn Hn') (hT : H T' = none ∧ T' ≠ L) (hD : H D' = none ∧ D' ≠ L) (hF : F' ≠ L) (eT : Hn' T' = some (.lst (ti.map V.int))) (eD : Hn' D' = some (.lst (dn.map V.int))) (eF : Hn' F' = some (.lst (lf.map V.int))) : Rwy K H Hn' L T' D' F' xs ⟨s.ls, ti, dn, lf, lk⟩ :=
  ⟨h.nL, hT.1, hD.1, h.sm.trans sm, sm _ _ h.eL, dps_same sm h.dL, eT, eD, eF, hT.2, hD.2, hF⟩
/-- one loop more -/
theorem Rwy.app {K : PySem.W.Frag} {H Hn : Hp} {L T D F : Addr} {xs : List V} {s : Sw} {x : V} {l : Lp} (h : Rwy K H Hn L T D F xs s) (d : Dp K Hn x (lpD l)) : Rwy K H (upd Hn L (.lst (xs ++ [x]))) L T D F (xs ++ [x]) ⟨s.ls ++ [l], s.ti, s.dn, s.lf, s.lk⟩ :=
  ⟨h.nL, h.nT, h.nD, fun b u e => by rw [upd_ne (ne_of_none e h.nL)]; exact h.sm b u e, upd_same, by
    rw [List.map_append]
    exact dps_app (lps_tk (Tk.own h.eL) h.dL) (.cons (lp_tk (Tk.own h.eL) d) .nil), by rw [upd_ne h.TL]; exact h.eT, by rw [upd_ne h.DL]; exact h.eD, by rw [upd_ne h.FL]; exact h.eF, h.TL, h.DL, h.FL⟩
theorem exK {te : TE} {σ : St} {H : Hp} {Q : VK} (R : V → Hp → Prop) (h : ∀ Q' : VK, (∀ x H', R x H' → Q' x H') → te σ H Q') (q : ∀ x H', R x H' → Q x H') : te σ H Q := h Q q
theorem few_row {y : Str} {qs : List Sti} {st : St3} {i : Nat} (h : rowS y (qs.take i) ⟨st.1, st.2.1, [], st.2.2, none⟩ = none) : rowD y qs st = none := by
  unfold rowD
  rw [rowS_fail h]
theorem eqc (q : Sti) : PyData.eqv (stiD q) (.str (Str.ofString "cross")) = (match q with | .crs => true | _ => false) := by
  cases q with
  | st j k => rfl
  | _ => decide +kernel
theorem eqp (q : Sti) : PyData.eqv (stiD q) (.str (Str.ofString "pass")) = (match q with | .pas => true | _ => false) := by
  cases q with
  | st j k => rfl
  | _ => decide +kernel
theorem eqh (q : Sti) : PyData.eqv (stiD q) (.str (Str.ofString "chain")) = (match q with | .chn => true | _ => false) := by
  cases q with
  | st j k => rfl
  | _ => decide +kernel
theorem isS (q : Sti) : isK (stiD q) "str" = (match q with | .st _ _ => false | _ => true) := by
  cases q with
  | st j k => rfl
  | _ => rfl
theorem sh_w (w : String) (h : PyData.strOk (Str.ofString w) = true) : SeqAt.shaped (.str (Str.ofString w)) = true := shaped_of (by simpa only [PyData.canLay0] using h) (by simp [PyData.depth])
def lkV : Option Int → V
  | none => .non
  | some v => .int v
section
variable {P : Program} {w : World} {K : PySem.W.Frag} {mg : Str → Option Value} {base : Heap}
theorem ok_row {f : Addr} {fd : FuncData} (F : Fun K "_law_row_done" "_law_row_done" sRow f fd) (B : Bl mg) :
    FnOk P w K mg base CX0 1 f fd ["loops_here", "fast_here", "needle_here", "course", "number"] (spRow K) := by
  refine F.ok scRow (fun vs H Q E h => ?_) (fun cdv A outer s H vs Q E hr h => ?_)
  · obtain ⟨la, fa, na, co, number, _, _, _, _, rfl, _⟩ := h
    rfl
  · obtain ⟨la, fa, na, co, number, xs, st, y, qs, rfl, hl, dl, hf, hn, dc, l1, l2, l3, l4, sq, k⟩ := h
    refine ⟨_, pss_cons (ps_asg (pv 3) (pg_tup rfl (pgs_cons (pg_name (i := 5) scRow.nd rfl (Or.inl rfl)) (pgs_cons (pg_name (i := 6) scRow.nd rfl (Or.inl rfl)) pgs_nil))))
      (pss_cons (ps_par (i := 7) (j := 8) rfl scRow.nd rfl rfl (by decide) rfl rfl (pa_cons (pe_callTy call_list_of (by rfl) (B "list" (by decide)) (by decide +kernel) (pa_cons (pv 0) pa_nil)) (pa_cons (pe_callTy call_list_of (by rfl) (B "list" (by decide)) (by decide +kernel) (pa_cons (pv 1) pa_nil)) pa_nil)) (by rfl))
      (pss_cons (ps_par3 (i := 9) (j := 10) (l := 11) rfl scRow.nd rfl rfl rfl (by decide) (by decide) (by decide) rfl rfl rfl (pa_cons (pe_lst pa_nil) (pa_cons (pe_callTy call_list_of (by rfl) (B "list" (by decide)) (by decide +kernel) (pa_cons (pv 2) pa_nil)) (pa_cons pe_non pa_nil))) (by rfl))
      (pss_cons (ps_for PassesOwn.never rfl (pi_range1 (by rfl) (B "range" (by decide)) (pa_cons (pe_callB call_len_seq (by rfl) (B "len" (by decide)) (by decide +kernel) (pa_cons (pv 6) pa_nil)) pa_nil)) (pg_name (i := 12) scRow.nd rfl (Or.inl rfl)) (pss_cons (ps_set (i := 13) scRow.nd rfl (Or.inl rfl) (pe_ix (ixt (K := K)) (pv 6) (pv 12) (fun _ _ => rfl)))
      (pss_cons (ps_set (i := 14) scRow.nd rfl (Or.inl rfl) (pe_ifExp (pt_cmpR (op_eqD hr.units) (pv 13) pe_str (nomark _)) pe_int (pe_ifExp (pt_val (pe_callB call_isi (by rfl) (B "isinstance" (by decide)) (by decide +kernel) (pa_cons (pv 13) (pa_cons (pe_bltn (v := .ty "str") rfl (B "str" (by decide)) (by decide +kernel) rfl) pa_nil)))) pe_int (pe_ix (ixt (K := K)) (pv 13) pe_int (fun _ _ => rfl)))))
      (pss_cons (ps_if (pt_cmpR op_gt (pv 14) (pe_callB call_len_seq (by rfl) (B "len" (by decide)) (by decide +kernel) (pa_cons (pv 10) pa_nil)) (nomark _)) (pss_one (ps_ret (pe_tup (pa_cons pe_str (pa_cons (pe_tup (pa_cons (pv 4) (pa_cons (pv 12) pa_nil))) pa_nil))))) pss_nil)
      (pss_one (ps_if (pt_cmpR (op_eqD hr.units) (pv 13) pe_str (nomark _)) (pss_one (ps_par (i := 10) (j := 11) rfl scRow.nd rfl rfl (by decide) rfl rfl (pa_cons (pe_op op_cat (pe_rev1 (pv 10)) (pe_slice sl_list (pv 10) (po_some pe_int) po_none)) (pa_cons pe_non pa_nil)) (by rfl))) (pss_one (ps_if (pt_cmpR (op_eqD hr.units) (pv 13) pe_str (nomark _)) (pss_one (ps_par3 (i := 9) (j := 10) (l := 11) rfl scRow.nd rfl rfl rfl (by decide) (by decide) (by decide) rfl rfl rfl (pa_cons (pe_op op_cat (pv 9) (pe_slice sl_list (pv 10) po_none (po_some pe_int))) (pa_cons (pe_slice sl_list (pv 10) (po_some pe_int) po_none) (pa_cons pe_non pa_nil))) (by rfl))) (pss_one (ps_if (pt_cmpR (op_eqD hr.units) (pv 13) pe_str (nomark _)) (pss_cons (ps_set (i := 15) scRow.nd rfl (Or.inl rfl) (pe_op op_cat (pe_slice sl_list (pv 10) po_none (po_some pe_int)) (pe_ifExp (pt_cmpR op_notN (pv 11) pe_non (nomark _)) (pe_lst (pa_cons (pv 11) pa_nil)) (pe_lst pa_nil))))
      (pss_cons (ps_expr (pe_bm PySem.F.plainAttrs_list PySem.F.slot_list_append PySem.F.type_list_append mt_append (pv 7) (pa_cons (pe_tup (pa_cons (pv 5) (pa_cons (pe_callTy call_tuple_of (by rfl) (B "tuple" (by decide)) (by decide +kernel) (pa_cons (pe_callB cr_sorted (by rfl) (B "sorted" (by decide)) (by decide +kernel) (pa_cons (pv 15) pa_nil)) pa_nil)) pa_nil))) pa_nil)))
      (pss_cons (ps_set (i := 9) scRow.nd rfl (Or.inl rfl) (pe_op op_cat (pe_ifExp (pt_cmpR op_isN (pv 11) pe_non (nomark _)) (pv 9) (pe_slice sl_list (pv 9) po_none (po_some (pe_un un_neg pe_int)))) (pe_lst (pa_cons (pe_op op_sub (pe_callB call_len_seq (by rfl) (B "len" (by decide)) (by decide +kernel) (pa_cons (pv 7) pa_nil)) pe_int) pa_nil))))
      (pss_one (ps_par (i := 10) (j := 11) rfl scRow.nd rfl rfl (by decide) rfl rfl (pa_cons (pe_slice sl_list (pv 10) (po_some pe_int) po_none) (pa_cons (pe_op op_sub (pe_callB call_len_seq (by rfl) (B "len" (by decide)) (by decide +kernel) (pa_cons (pv 7) pa_nil)) pe_int) pa_nil)) (by rfl)))))) (pss_cons (ps_for PassesOwn.never rfl (pi_range1 (by rfl) (B "range" (by decide)) (pa_cons (pe_ix (ixt (K := K)) (pv 13) pe_int (fun _ _ => rfl)) pa_nil)) (pg_name (i := 16) scRow.nd rfl (Or.inl rfl)) (pss_cons (ps_expr (pe_bm PySem.F.plainAttrs_list PySem.F.slot_list_append PySem.F.type_list_append mt_append (pv 7) (pa_cons (pe_tup (pa_cons (pv 5) (pa_cons (pe_callTy call_tuple_of (by rfl) (B "tuple" (by decide)) (by decide +kernel) (pa_cons (pe_callB cr_sorted (by rfl) (B "sorted" (by decide)) (by decide +kernel) (pa_cons (pe_slice sl_list (pv 10) po_none (po_some (pv 14))) pa_nil)) pa_nil)) pa_nil))) pa_nil)))
      (pss_one (ps_set (i := 9) scRow.nd rfl (Or.inl rfl) (pe_op op_cat (pv 9) (pe_lst (pa_cons (pe_op op_sub (pe_callB call_len_seq (by rfl) (B "len" (by decide)) (by decide +kernel) (pa_cons (pv 7) pa_nil)) pe_int) pa_nil)))))))
      (pss_cons (ps_if (pt_cmpR op_eq (pe_ix (ixt (K := K)) (pv 13) pe_int (fun _ _ => rfl)) pe_int (nomark _)) (pss_one (ps_set (i := 8) scRow.nd rfl (Or.inl rfl) (pe_op op_cat (pv 8) (pe_slice sl_list (pv 10) po_none (po_some (pv 14)))))) pss_nil)
      (pss_one (ps_par (i := 10) (j := 11) rfl scRow.nd rfl rfl (by decide) rfl rfl (pa_cons (pe_slice sl_list (pv 10) (po_some (pv 14)) po_none) (pa_cons pe_non pa_nil)) (by rfl)))))))))))))))
      (pss_one (ps_ret (pe_ifExp (pt_cmpR (op_eqD hr.units) (pv 10) (pe_lst pa_nil) (nomark _)) (pe_tup (pa_cons (pv 7) (pa_cons (pv 8) (pa_cons (pv 9) pa_nil)))) (pe_tup (pa_cons pe_str (pa_cons (pe_tup (pa_cons (pv 4) (pa_cons (pe_callB call_len_seq (by rfl) (B "len" (by decide)) (by decide +kernel) (pa_cons (pv 10) pa_nil)) pa_nil))) pa_nil))))))))), ?_⟩
    cases dc with
    | tup sc dcs =>
      cases dcs with
      | cons dy dcs =>
        cases dy
        cases dcs with
        | cons dq dn =>
          cases dn
          cases dq with
          | @tup sa sxs _ sq' dqs =>
            refine ⟨_, rfl, co, _, rfl, sc, rfl, _, _, rfl, _, _, rfl, rfl, ?_⟩
            refine ⟨_, rfl, la, xs, rfl, .inl hl, fun L nL => ?_⟩
            have s1 : Same H (upd H L (.lst xs)) := same_new nL
            refine ⟨_, rfl, fa, _, rfl, .inl (s1.seq hf), fun T nT => ⟨_, _, rfl, ?_⟩⟩
            have s2 := s1.trans (same_new (o := .lst (st.2.1.map V.int)) nT)
            refine ⟨by show 0 ≤ sizeLine; decide, fun D nD => ?_⟩
            have s3 := s2.trans (same_new (o := .lst []) nD)
            refine ⟨_, rfl, na, _, rfl, .inl (s3.seq hn), fun F nF => ⟨_, _, _, rfl, ?_⟩⟩
            have s4 := s3.trans (same_new (o := .lst (st.2.2.map V.int)) nF)
            have LT := ne_of_none (upd_same (H := H) (a := L) (o := .lst xs)) nT
            have eL := same_new (o := .lst []) nD _ _ (same_new (o := .lst (st.2.1.map V.int)) nT _ _ (upd_same (H := H) (a := L) (o := .lst xs)))
            have eT := same_new (o := .lst []) nD _ _ (upd_same (H := upd H L (.lst xs)) (a := T) (o := .lst (st.2.1.map V.int)))
            have eD := upd_same (H := upd (upd H L (.lst xs)) T (.lst (st.2.1.map V.int))) (a := D) (o := .lst [])
            have s5 := same_new (o := .lst (st.2.2.map V.int)) nF
            have w0 : Rwy K H (upd (upd (upd (upd H L (.lst xs)) T (.lst (st.2.1.map V.int))) D (.lst [])) F (.lst (st.2.2.map V.int))) L T D F xs ⟨st.1, st.2.1, [], st.2.2, none⟩ :=
              ⟨nL, gone s1 nT, gone s2 nD, s4, s5 _ _ eL, dps_same s4 dl, s5 _ _ eT, s5 _ _ eD, upd_same, LT.symm, (ne_of_none (same_new (o := .lst (st.2.1.map V.int)) nT _ _ (upd_same (H := H) (a := L) (o := .lst xs))) nD).symm, (ne_of_none eL nF).symm⟩
            have ql := dps_len dqs
            rw [List.length_map] at ql
            refine ⟨_, rfl, _, _, rfl, .inr (same_tup s4 sq'), _, rfl, by omega, by omega, ?_⟩
            refine for_range (lo := 0) (n := sxs.length) (fun i σ Hn => ∃ (s : Sw) (T D F : Addr) (xs : List V) (o12 o13 o14 o15 o16 : Option V), σ = [some (.ref la), some (.ref fa), some (.ref na), some (.ref co), some (.int number), some (.str y), some (.ref sa), some (.ref L), some (.ref T), some (.ref D), some (.ref F), some (lkV s.lk), o12, o13, o14, o15, o16] ∧ rowS y (qs.take i) ⟨st.1, st.2.1, [], st.2.2, none⟩ = some s ∧ Bnd (10000 + 3 * i) s ∧ Rwy K H Hn L T D F xs s)
              ⟨_, _, _, _, _, _, _, _, _, _, rfl, rfl, ⟨l1, l2, Nat.zero_le _, l3⟩, w0⟩ (fun i σ H2 hi hI => ?_) (fun σ H2 hI => ?_)
            · obtain ⟨s, T, D, F, xs, o12, o13, o14, o15, o16, rfl, hrow, hb, hw⟩ := hI
              obtain ⟨vq, dq, q1, q2, q3⟩ := dps_at (dps_same hw.sm dqs) (i := i) (by rw [List.length_map]; omega)
              rw [List.getElem?_map] at q2
              obtain ⟨q, hq, rfl⟩ := Option.map_eq_some_iff.mp q2
              have hnx := rowS_succ hrow hq
              have qm := sq q (List.mem_of_getElem? hq)
              have sQ : SqT K H2 sa sxs := same_tup hw.sm sq'
              have at' : atI sxs (0 + (i : Int)) = some vq := by rw [Int.zero_add]; exact atI_nat q1
              refine ⟨_, rfl, _, rfl, sa, _, _, _, rfl, rfl, sQ, at', ?_⟩
              have shc := sh_w "cross" (by decide +kernel)
              have shp := sh_w "pass" (by decide +kernel)
              have shh := sh_w "chain" (by decide +kernel)
              have ty2 : sizeLine = 16777216 := sizeLine_eq
              -- need
              dsimp only [gName, tSeq, tAsg]
              refine exK (fun x H' => x = .int (needOf q) ∧ H' = H2) (fun Q' q' => ?_) ?_
              · refine ⟨_, rfl, stiD q, .str (Str.ofString "cross"), q3, .str _, sh_sti q, shc, _, rfl, ?_⟩
                rw [eqc]
                cases q with
                | crs => exact LK.ifT rfl (q' _ _ ⟨rfl, rfl⟩)
                | pas => exact LK.ifF rfl ⟨_, rfl, _, _, _, _, _, rfl, .ty "str", dp_ty q3, kit_d q3 "str" (by decide), _, rfl, LK.ifT rfl (q' _ _ ⟨rfl, rfl⟩)⟩
                | chn => exact LK.ifF rfl ⟨_, rfl, _, _, _, _, _, rfl, .ty "str", dp_ty q3, kit_d q3 "str" (by decide), _, rfl, LK.ifT rfl (q' _ _ ⟨rfl, rfl⟩)⟩
                | st j k =>
                  refine LK.ifF rfl ⟨_, rfl, _, _, _, _, _, rfl, .ty "str", dp_ty q3, kit_d q3 "str" (by decide), _, rfl, LK.ifF rfl ?_⟩
                  cases q3 with
                  | tup st3 d3 =>
                    cases d3 with
                    | cons e1 d3 =>
                      cases e1
                      exact ⟨_, rfl, _, _, 0, _, rfl, rfl, st3, atI_nat (j := 0) rfl, q' _ _ ⟨rfl, rfl⟩⟩
              rintro x H2 ⟨rfl, rfl⟩
              refine ⟨_, rfl, _, rfl, F, _, rfl, .inl (SqL.of hw.eF), _, _, rfl, rfl, _, rfl, ?_⟩
              rw [List.length_map]
              by_cases few : (s.lf.length : Int) < (needOf q : Int)
              · refine LK.ifT (decide_eq_true few) ?_
                have nn : stepS y q s = none := by
                  unfold stepS
                  rw [if_pos (by omega)]
                refine ⟨_, rfl, _, rfl, by show 2 ≤ sizeLine; decide, fun p np => ⟨by show 2 ≤ sizeLine; decide, fun t nt => k _ _ (hw.sm.trans ((same_new np).trans (same_new nt))) (fun st' e => ?_) (fun _ => ⟨t, _, _, rfl, upd_same⟩)⟩⟩
                rw [few_row (hnx.trans nn)] at e
                cases e
              refine LK.ifF (decide_eq_false few) ?_
              have nn : stepS y q s = some (doneS y q s) := by
                unfold stepS
                rw [if_neg (by omega)]
              have hnx' := hnx.trans nn
              have hb' := hb.step (y := y) qm
              have hb2 : Bnd (10000 + 3 * (i + 1)) (doneS y q s) := ⟨by have := hb'.ls; omega, by have := hb'.ti; omega, by have := hb'.dn; omega, by have := hb'.lf; omega⟩
              have b1 := hb.ls
              have b2 := hb.ti
              have b3 := hb.dn
              have b4 := hb.lf
              refine ⟨_, rfl, stiD q, .str (Str.ofString "cross"), q3, .str _, sh_sti q, shc, _, rfl, ?_⟩
              rw [eqc]
              have c2 : ∀ (xs : List Int) (n : Nat), cutV (xs.map V.int) (some (n : Int)) none = (xs.drop n).map V.int := fun xs n => by rw [cut_drop, List.map_drop]
              have c1 : ∀ (xs : List Int) (n : Nat), cutV (xs.map V.int) none (some (n : Int)) = (xs.take n).map V.int := fun xs n => by rw [cut_to, List.map_take]
              cases q with
              | crs =>
                refine LK.ifT rfl ?_
                obtain ⟨a, b, r, hl2⟩ : ∃ a b r, s.lf = a :: b :: r := by
                  cases e : s.lf with
                  | nil => rw [e] at few; exact absurd (show ((0 : Nat) : Int) < ((2 : Nat) : Int) by decide) few
                  | cons a r =>
                    cases r with
                    | nil => rw [e] at few; exact absurd (show ((1 : Nat) : Int) < ((2 : Nat) : Int) by decide) few
                    | cons b r => exact ⟨a, b, r, rfl⟩
                have eF := hw.eF
                have eqf : (doneS y .crs s).lf = b :: a :: r := by
                  show (s.lf.take 2).reverse ++ s.lf.drop 2 = _
                  rw [hl2]
                  rfl
                rw [hl2] at eF
                refine ⟨_, rfl, F, _, _, _, rfl, SqL.of eF, fun p np => ?_⟩
                have t1 := same_new (o := .lst [.int b, .int a]) np
                refine ⟨_, rfl, 2, rfl, F, _, rfl, SqL.of (t1 _ _ eF), fun p2 np2 => ?_⟩
                have c := c2 (a :: b :: r) 2
                have t2 := t1.trans (same_new (o := .lst (cutV (V.int a :: V.int b :: r.map V.int) (some 2) none)) np2)
                refine ⟨p, p2, _, _, rfl, rfl, same_new np2 _ _ upd_same, upd_same, ?_, fun p3 np3 => ⟨_, _, rfl, ?_⟩⟩
                · have := cutV_length ((a :: b :: r).map V.int) (some 2) none
                  rw [hl2] at b4
                  simp only [List.length_cons, List.length_map, List.length_nil] at this b4 ⊢
                  omega
                have t3 := t2.trans (same_new (o := .lst ([V.int b, V.int a] ++ cutV (V.int a :: V.int b :: r.map V.int) (some 2) none)) np3)
                have n3 := hw.nw (gone t2 np3)
                refine ⟨doneS y .crs s, T, D, p3, xs, _, _, _, _, _, rfl, hnx', hb2, hw.go t3 ⟨hw.nT, hw.TL⟩ ⟨hw.nD, hw.DL⟩ n3.2 (t3 _ _ hw.eT) (t3 _ _ hw.eD) ?_⟩
                rw [upd_same]
                show some (HO.lst (_ ++ cutV ((a :: b :: r).map V.int) (some ((2 : Nat) : Int)) none)) = some (HO.lst ((doneS y .crs s).lf.map V.int))
                rw [c, eqf]
                rfl
              | pas =>
                refine LK.ifF rfl ⟨_, rfl, stiD .pas, .str (Str.ofString "pass"), q3, .str _, sh_sti .pas, shp, _, rfl, ?_⟩
                rw [eqp]
                refine LK.ifT rfl ?_
                refine ⟨_, rfl, _, rfl, 1, rfl, F, _, rfl, SqL.of hw.eF, fun p np => ?_⟩
                have c := c1 s.lf 1
                have c' := c2 s.lf 1
                have t1 := same_new (o := .lst (cutV (s.lf.map V.int) none (some 1))) np
                refine ⟨D, p, _, _, rfl, rfl, t1 _ _ hw.eD, upd_same, ?_, fun p2 np2 => ?_⟩
                · have := cutV_length (s.lf.map V.int) none (some 1)
                  rw [List.length_map] at this ⊢
                  omega
                have t2 := t1.trans (same_new (o := .lst (s.dn.map V.int ++ cutV (s.lf.map V.int) none (some 1))) np2)
                refine ⟨_, rfl, 1, rfl, F, _, rfl, SqL.of (t2 _ _ hw.eF), fun p3 np3 => ⟨_, _, _, rfl, ?_⟩⟩
                have t3 := t2.trans (same_new (o := .lst (cutV (s.lf.map V.int) (some 1) none)) np3)
                have n2 := hw.nw (gone t1 np2)
                have n3 := hw.nw (gone t2 np3)
                refine ⟨doneS y .pas s, T, p2, p3, xs, _, _, _, _, _, rfl, hnx', hb2, hw.go t3 ⟨hw.nT, hw.TL⟩ n2 n3.2 (t3 _ _ hw.eT) ?_ ?_⟩
                · have := same_new (o := .lst (cutV (s.lf.map V.int) (some 1) none)) np3 _ _ (upd_same (a := p2) (o := .lst (s.dn.map V.int ++ cutV (s.lf.map V.int) none (some 1))))
                  rw [this]
                  show some (HO.lst (_ ++ cutV (s.lf.map V.int) none (some ((1 : Nat) : Int)))) = some (HO.lst ((s.dn ++ s.lf.take 1).map V.int))
                  rw [c, List.map_append]
                · rw [upd_same]
                  show some (HO.lst (cutV (s.lf.map V.int) (some ((1 : Nat) : Int)) none)) = some (HO.lst ((s.lf.drop 1).map V.int))
                  rw [c']
              | chn =>
                refine LK.ifF rfl ⟨_, rfl, stiD .chn, .str (Str.ofString "pass"), q3, .str _, sh_sti .chn, shp, _, rfl, ?_⟩
                rw [eqp]
                refine LK.ifF rfl ⟨_, rfl, stiD .chn, .str (Str.ofString "chain"), q3, .str _, sh_sti .chn, shh, _, rfl, ?_⟩
                rw [eqh]
                refine LK.ifT rfl ?_
                have c := c1 s.lf 1
                have c' := c2 s.lf 1
                -- through
                refine ⟨_, rfl, 1, rfl, F, _, rfl, SqL.of hw.eF, fun p np => ?_⟩
                have e1 : upd H2 p (.lst (cutV (s.lf.map V.int) none (some 1))) p = some (.lst ((s.lf.take 1).map V.int)) := by
                  rw [upd_same]
                  show some (HO.lst (cutV (s.lf.map V.int) none (some ((1 : Nat) : Int)))) = _
                  rw [c]
                have t1 := same_new (o := .lst (cutV (s.lf.map V.int) none (some 1))) np
                have np0 := np
                generalize hH3 : upd H2 p (.lst (cutV (s.lf.map V.int) none (some 1))) = H3 at e1 t1
                dsimp only
                refine exK (fun x H' => ∃ p', x = .ref p' ∧ H' p' = some (.lst (s.lk.toList.map V.int)) ∧ Same H3 H') (fun Q' q' => ?_) ?_
                · refine ⟨_, rfl, rfl, _, rfl, ?_⟩
                  cases elk : s.lk with
                  | none => exact LK.ifF rfl ⟨by show 0 ≤ sizeLine; decide, fun p' np' => q' _ _ ⟨p', rfl, by rw [elk]; exact upd_same, same_new np'⟩⟩
                  | some v => exact LK.ifT rfl ⟨_, rfl, by show 1 ≤ sizeLine; decide, fun p' np' => q' _ _ ⟨p', rfl, by rw [elk]; exact upd_same, same_new np'⟩⟩
                rintro x H4 ⟨p', rfl, e4, s4'⟩
                have lk1 : s.lk.toList.length ≤ 1 := by cases s.lk <;> simp
                refine ⟨p, p', _, _, rfl, rfl, s4' _ _ e1, e4, ?_, fun pt npt => ?_⟩
                · simp only [List.length_map, List.length_take]
                  omega
                have t4 := t1.trans s4'
                have e5 : upd H4 pt (.lst ((s.lf.take 1).map V.int ++ s.lk.toList.map V.int)) pt = some (.lst ((s.lf.take 1 ++ s.lk.toList).map V.int)) := by
                  rw [upd_same, List.map_append]
                have t5 := t4.trans (same_new (o := .lst ((s.lf.take 1).map V.int ++ s.lk.toList.map V.int)) npt)
                generalize upd H4 pt (.lst ((s.lf.take 1).map V.int ++ s.lk.toList.map V.int)) = H5 at e5 t5
                -- the new loop
                refine ⟨_, rfl, .inl ⟨rfl, _, SqL.of (t5 _ _ hw.eL)⟩, _, rfl, _, rfl, pt, _, rfl, SqL.of e5, ?_, fun ns' Sp perm pw nSp => ?_⟩
                · simp only [List.length_append, List.length_take]
                  omega
                have ens := srt_of perm pw
                subst ens
                have t6 := t5.trans (same_new (o := .lst ((srt (s.lf.take 1 ++ s.lk.toList)).map V.int)) nSp)
                refine ⟨Sp, _, rfl, .inl ⟨SqL.of upd_same, fun Tp nTp => ⟨by show 2 ≤ sizeLine; decide, fun Tl nTl => ?_⟩⟩⟩
                have t7 := t6.trans (same_new (o := .tup ((srt (s.lf.take 1 ++ s.lk.toList)).map V.int)) nTp)
                have t8 := t7.trans (same_new (o := .tup [.str y, .ref Tp]) nTl)
                have eTp := same_new (o := .tup [.str y, .ref Tp]) nTl _ _ (upd_same (H := upd H5 Sp (.lst ((srt (s.lf.take 1 ++ s.lk.toList)).map V.int))) (a := Tp) (o := .tup ((srt (s.lf.take 1 ++ s.lk.toList)).map V.int)))
                have dl : Dp K _ (.ref Tl) (lpD (y, srt (s.lf.take 1 ++ s.lk.toList))) := .tup (.inl (.inl (upd_same (o := .tup [.str y, .ref Tp])))) (.cons (.str y) (.cons (.tup (.inl (.inl eTp)) (dp_ints_of _)) .nil))
                have hw8 := hw.go t8 ⟨hw.nT, hw.TL⟩ ⟨hw.nD, hw.DL⟩ hw.FL (t8 _ _ hw.eT) (t8 _ _ hw.eD) (t8 _ _ hw.eF) (lk := s.lk)
                have xl : xs.length = s.ls.length := by rw [dps_len hw.dL, List.length_map]
                refine ⟨L, xs, .ref Tl, rfl, rfl, hw8.eL, by omega, ?_⟩
                have hw9 := hw8.app dl
                have sm9 : Same H (upd _ L (.lst (xs ++ [.ref Tl]))) := hw9.sm
                generalize upd (upd (upd (upd H5 Sp (.lst ((srt (s.lf.take 1 ++ s.lk.toList)).map V.int))) Tp (.tup ((srt (s.lf.take 1 ++ s.lk.toList)).map V.int))) Tl (.tup [.str y, .ref Tp])) L (.lst (xs ++ [.ref Tl])) = H9 at hw9 sm9
                have len1 : ((xs ++ [V.ref Tl]).length : Int) - 1 = s.ls.length := by
                  rw [List.length_append, List.length_singleton, xl]
                  omega
                obtain ⟨d0, hd0⟩ : ∃ d0, (match s.lk with | none => s.dn | some _ => s.dn.dropLast) = d0 := ⟨_, rfl⟩
                have d0l : d0.length ≤ s.dn.length := by
                  rw [← hd0]
                  cases s.lk with
                  | none => exact Nat.le_refl _
                  | some v => dsimp only; rw [List.length_dropLast]; omega
                dsimp only [gName, tSeq, tAsg, tOp]
                refine exK (fun x H' => ∃ p', x = .ref p' ∧ H' p' = some (.lst (d0.map V.int)) ∧ Same H9 H') (fun Q' q' => ?_) ?_
                · refine ⟨_, rfl, rfl, _, rfl, ?_⟩
                  cases elk : s.lk with
                  | none =>
                    rw [elk] at hd0
                    exact LK.ifT rfl ⟨_, rfl, q' _ _ ⟨D, rfl, by rw [← hd0]; exact hw9.eD, Same.refl _⟩⟩
                  | some v =>
                    rw [elk] at hd0
                    exact LK.ifF rfl ⟨_, rfl, 1, rfl, -1, rfl, D, _, rfl, SqL.of hw9.eD, fun p' np' => q' _ _ ⟨p', rfl, by rw [upd_same, ← hd0]; exact congrArg (fun z => some (HO.lst z)) (by rw [cut_last, List.map_dropLast]), same_new np'⟩⟩
                rintro x H10 ⟨p', rfl, e10, s10⟩
                refine ⟨_, rfl, L, _, rfl, .inl (SqL.of (s10 _ _ hw9.eL)), _, _, rfl, rfl, by show 1 ≤ sizeLine; decide, fun p2 np2 => ?_⟩
                dsimp only
                rw [len1]
                have t10 := s10.trans (same_new (o := .lst [.int (s.ls.length : Int)]) np2)
                refine ⟨p', p2, _, _, rfl, rfl, same_new np2 _ _ e10, upd_same, ?_, fun p3 np3 => ?_⟩
                · rw [List.length_map]
                  simp only [List.length_cons, List.length_nil]
                  omega
                have e11 : upd (upd H10 p2 (.lst [.int (s.ls.length : Int)])) p3 (.lst (d0.map V.int ++ [.int (s.ls.length : Int)])) p3 = some (.lst ((d0 ++ [(s.ls.length : Int)]).map V.int)) := by
                  rw [upd_same, List.map_append]
                  rfl
                have t11 := t10.trans (same_new (o := .lst (d0.map V.int ++ [.int (s.ls.length : Int)])) np3)
                have n11 := hw9.nw (gone t10 np3)
                generalize upd (upd H10 p2 (.lst [.int (s.ls.length : Int)])) p3 (.lst (d0.map V.int ++ [.int (s.ls.length : Int)])) = H11 at e11 t11
                refine ⟨_, rfl, 1, rfl, F, _, rfl, SqL.of (t11 _ _ hw9.eF), fun p4 np4 => ⟨_, rfl, L, _, rfl, .inl (SqL.of (same_new np4 _ _ (t11 _ _ hw9.eL))), _, _, rfl, rfl, _, _, rfl, ?_⟩⟩
                have t12 := t11.trans (same_new (o := .lst (cutV (s.lf.map V.int) (some 1) none)) np4)
                dsimp only
                rw [len1]
                refine ⟨doneS y .chn s, T, p3, p4, xs ++ [.ref Tl], _, _, _, _, _, rfl, hnx', hb2, ?_⟩
                have fin := hw9.go (ti := s.ti) (dn := d0 ++ [(s.ls.length : Int)]) (lf := s.lf.drop 1) (lk := some (s.ls.length : Int)) t12 ⟨hw9.nT, hw9.TL⟩ n11 (hw9.nw (gone t11 np4)).2 (t12 _ _ hw9.eT) (same_new np4 _ _ e11) (by
                  rw [upd_same]
                  show some (HO.lst (cutV (s.lf.map V.int) (some ((1 : Nat) : Int)) none)) = _
                  rw [c'])
                rw [← hd0] at fin
                exact fin
              | st j k' =>
                obtain ⟨sj, sk⟩ : j ≤ 3 ∧ k' ≤ 3 := qm
                refine LK.ifF rfl ⟨_, rfl, stiD (.st j k'), .str (Str.ofString "pass"), q3, .str _, sh_sti (.st j k'), shp, _, rfl, ?_⟩
                rw [eqp]
                refine LK.ifF rfl ⟨_, rfl, stiD (.st j k'), .str (Str.ofString "chain"), q3, .str _, sh_sti (.st j k'), shh, _, rfl, ?_⟩
                rw [eqh]
                refine LK.ifF rfl ?_
                have c := c1 s.lf j
                have c' := c2 s.lf j
                have xl : xs.length = s.ls.length := by rw [dps_len hw.dL, List.length_map]
                cases q3 with
                | @tup qa _ _ st3 d3 =>
                  cases d3 with
                  | cons e1 d3 =>
                    cases e1
                    cases d3 with
                    | cons e2 d3 =>
                      cases e2
                      cases d3
                      refine ⟨_, rfl, _, _, 1, _, rfl, rfl, st3, atI_nat (j := 1) rfl, (k' : Int), rfl, by omega, by omega, ?_⟩
                      refine for_range (lo := 0) (n := k') (fun m σ Hn => ∃ (D : Addr) (xs : List V) (o16 : Option V), σ = [some (.ref la), some (.ref fa), some (.ref na), some (.ref co), some (.int number), some (.str y), some (.ref sa), some (.ref L), some (.ref T), some (.ref D), some (.ref F), some (lkV s.lk), some (.int (0 + (i : Int))), some (.ref qa), some (.int (j : Int)), o15, o16] ∧ Tk H2 Hn ∧ Rwy K H Hn L T D F xs ⟨(knit y (srt (s.lf.take j)) m (s.ls, s.dn)).1, s.ti, (knit y (srt (s.lf.take j)) m (s.ls, s.dn)).2, s.lf, s.lk⟩)
                        ⟨D, xs, _, rfl, Tk.same (Same.refl _), hw⟩ (fun m σ H3 hm hI => ?_) (fun σ H3 hI => ?_)
                      · obtain ⟨D, xs, o16, rfl, sm3, hw⟩ := hI
                        have kl := knit_len y (srt (s.lf.take j)) m (s.ls, s.dn)
                        have kd := congrArg List.length (knit_dn y (srt (s.lf.take j)) m (s.ls, s.dn))
                        rw [List.length_append, List.length_map, List.length_range] at kd
                        dsimp only at kl kd
                        have xl : xs.length = s.ls.length + m := by
                          rw [dps_len hw.dL, List.length_map]
                          exact kl
                        refine ⟨_, rfl, .inl ⟨rfl, _, SqL.of hw.eL⟩, _, rfl, _, rfl, _, rfl, j, rfl, F, _, rfl, SqL.of hw.eF, fun p np => ?_⟩
                        have t1 := same_new (o := .lst (cutV (s.lf.map V.int) none (some (j : Int)))) np
                        refine ⟨p, s.lf.take j, rfl, SqL.of (by rw [← c]; exact upd_same), ?_, fun ns' Sp perm pw nSp => ?_⟩
                        · rw [List.length_take]
                          omega
                        have ens := srt_of perm pw
                        subst ens
                        generalize hH5 : upd H3 p (.lst (cutV (s.lf.map V.int) none (some (j : Int)))) = H5 at t1 nSp
                        have t6 := t1.trans (same_new (o := .lst ((srt (s.lf.take j)).map V.int)) nSp)
                        refine ⟨Sp, _, rfl, .inl ⟨SqL.of upd_same, fun Tp nTp => ⟨by show 2 ≤ sizeLine; decide, fun Tl nTl => ?_⟩⟩⟩
                        have t7 := t6.trans (same_new (o := .tup ((srt (s.lf.take j)).map V.int)) nTp)
                        have t8 := t7.trans (same_new (o := .tup [.str y, .ref Tp]) nTl)
                        have eTp := same_new (o := .tup [.str y, .ref Tp]) nTl _ _ (upd_same (H := upd H5 Sp (.lst ((srt (s.lf.take j)).map V.int))) (a := Tp) (o := .tup ((srt (s.lf.take j)).map V.int)))
                        have dl : Dp K _ (.ref Tl) (lpD (y, srt (s.lf.take j))) := .tup (.inl (.inl (upd_same (o := .tup [.str y, .ref Tp])))) (.cons (.str y) (.cons (.tup (.inl (.inl eTp)) (dp_ints_of _)) .nil))
                        have hw8 := hw.go t8 ⟨hw.nT, hw.TL⟩ ⟨hw.nD, hw.DL⟩ hw.FL (t8 _ _ hw.eT) (t8 _ _ hw.eD) (t8 _ _ hw.eF) (lk := s.lk)
                        refine ⟨L, xs, .ref Tl, rfl, rfl, hw8.eL, by omega, ?_⟩
                        have hw9 := hw8.app dl
                        have sm9 : Tk H2 (upd (upd (upd (upd H5 Sp (.lst ((srt (s.lf.take j)).map V.int))) Tp (.tup ((srt (s.lf.take j)).map V.int))) Tl (.tup [.str y, .ref Tp])) L (.lst (xs ++ [.ref Tl]))) := (sm3.trans (Tk.same t8)).trans (Tk.own hw8.eL)
                        generalize upd (upd (upd (upd H5 Sp (.lst ((srt (s.lf.take j)).map V.int))) Tp (.tup ((srt (s.lf.take j)).map V.int))) Tl (.tup [.str y, .ref Tp])) L (.lst (xs ++ [.ref Tl])) = H9 at hw9 sm9
                        have len1 : ((xs ++ [V.ref Tl]).length : Int) - 1 = ((knit y (srt (s.lf.take j)) m (s.ls, s.dn)).1.length : Int) := by
                          rw [List.length_append, List.length_singleton, xl, kl]
                          omega
                        refine ⟨_, rfl, _, rfl, L, _, rfl, .inl (SqL.of hw9.eL), _, _, rfl, rfl, by show 1 ≤ sizeLine; decide, fun p2 np2 => ?_⟩
                        dsimp only
                        rw [len1]
                        have t10 := same_new (o := .lst [.int ((knit y (srt (s.lf.take j)) m (s.ls, s.dn)).1.length : Int)]) np2
                        refine ⟨D, p2, _, _, rfl, rfl, t10 _ _ hw9.eD, upd_same, ?_, fun p3 np3 => ?_⟩
                        · rw [List.length_map]
                          simp only [List.length_cons, List.length_nil]
                          omega
                        have t11 := t10.trans (same_new (o := .lst ((knit y (srt (s.lf.take j)) m (s.ls, s.dn)).2.map V.int ++ [.int ((knit y (srt (s.lf.take j)) m (s.ls, s.dn)).1.length : Int)])) np3)
                        have n11 := hw9.nw (gone t10 np3)
                        refine ⟨p3, xs ++ [.ref Tl], _, rfl, sm9.trans (Tk.same t11), hw9.go (lk := s.lk) t11 ⟨hw9.nT, hw9.TL⟩ n11 hw9.FL (t11 _ _ hw9.eT) ?_ (t11 _ _ hw9.eF)⟩
                        rw [upd_same]
                        show _ = some (HO.lst (((knit y (srt (s.lf.take j)) m (s.ls, s.dn)).2 ++ [((knit y (srt (s.lf.take j)) m (s.ls, s.dn)).1.length : Int)]).map V.int))
                        rw [List.map_append]
                        rfl
                      · obtain ⟨D, xs, o16, rfl, sm3, hw⟩ := hI
                        refine ⟨_, rfl, _, _, 1, _, rfl, rfl, sqT_tk sm3 st3, atI_nat (j := 1) rfl, rfl, _, rfl, ?_⟩
                        by_cases z : k' = 0
                        · subst z
                          refine LK.ifT rfl ⟨_, rfl, _, rfl, _, rfl, j, rfl, F, _, rfl, SqL.of hw.eF, fun p np => ?_⟩
                          have t1 := same_new (o := .lst (cutV (s.lf.map V.int) none (some (j : Int)))) np
                          refine ⟨T, p, _, _, rfl, rfl, t1 _ _ hw.eT, upd_same, ?_, fun p2 np2 => ?_⟩
                          · have := cutV_length (s.lf.map V.int) none (some (j : Int))
                            rw [List.length_map] at this ⊢
                            show s.ti.length + (cutV (s.lf.map V.int) none (some (j : Int))).length ≤ sizeLine
                            omega
                          have t2 := t1.trans (same_new (o := .lst (s.ti.map V.int ++ cutV (s.lf.map V.int) none (some (j : Int)))) np2)
                          have n2 := hw.nw (gone t1 np2)
                          refine ⟨_, rfl, _, rfl, j, rfl, F, _, rfl, SqL.of (t2 _ _ hw.eF), fun p3 np3 => ⟨_, _, rfl, ?_⟩⟩
                          have t3 := t2.trans (same_new (o := .lst (cutV (s.lf.map V.int) (some (j : Int)) none)) np3)
                          have n3 := hw.nw (gone t2 np3)
                          refine ⟨doneS y (.st j 0) s, p2, D, p3, xs, _, _, _, _, _, rfl, hnx', hb2, hw.go t3 n2 ⟨hw.nD, hw.DL⟩ n3.2 ?_ (t3 _ _ hw.eD) ?_⟩
                          · have := same_new (o := .lst (cutV (s.lf.map V.int) (some (j : Int)) none)) np3 _ _ (upd_same (a := p2) (o := .lst (s.ti.map V.int ++ cutV (s.lf.map V.int) none (some (j : Int)))))
                            rw [this, c]
                            show _ = some (HO.lst ((if (0 : Nat) = 0 then s.ti ++ s.lf.take j else s.ti).map V.int))
                            rw [if_pos rfl, List.map_append]
                          · rw [upd_same, c']
                        · refine LK.ifF (by simpa using fun e : (k' : Int) = 0 => z (by omega)) ?_
                          refine ⟨_, rfl, _, rfl, j, rfl, F, _, rfl, SqL.of hw.eF, fun p3 np3 => ⟨_, _, rfl, ?_⟩⟩
                          have t3 := same_new (o := .lst (cutV (s.lf.map V.int) (some (j : Int)) none)) np3
                          have n3 := hw.nw np3
                          refine ⟨doneS y (.st j k') s, T, D, p3, xs, _, _, _, _, _, rfl, hnx', hb2, hw.go t3 ⟨hw.nT, hw.TL⟩ ⟨hw.nD, hw.DL⟩ n3.2 ?_ (t3 _ _ hw.eD) ?_⟩
                          · show _ = some (HO.lst ((if k' = 0 then s.ti ++ s.lf.take j else s.ti).map V.int))
                            rw [if_neg z]
                            exact t3 _ _ hw.eT
                          · rw [upd_same, c']
            · obtain ⟨s, T, D, F, xs, o12, o13, o14, o15, o16, rfl, hrow, hb, hw⟩ := hI
              rw [ql, List.take_length] at hrow
              have hD : rowD y qs st = if s.lf = [] then some (s.ls, s.ti, s.dn) else none := by
                unfold rowD
                rw [hrow]
              refine ⟨_, rfl, by show 0 ≤ sizeLine; decide, fun p np => ?_⟩
              have t1 := same_new (o := .lst []) np
              refine ⟨.list (s.lf.map PyData.int), .list [], .lst (SqL.of (t1 _ _ hw.eF)) (dp_ints_of _), .lst (SqL.of upd_same) .nil, sh_ints _, sh_ints [], _, rfl, ?_⟩
              rw [eqv_nili]
              by_cases e : s.lf = []
              · refine LK.ifT (by rw [e]; rfl) ⟨_, rfl, _, rfl, _, rfl, by show 3 ≤ sizeLine; decide, fun t nt => k _ _ (hw.sm.trans (t1.trans (same_new nt))) (fun st' e' => ?_) (fun e' => ?_)⟩
                · rw [hD, if_pos e] at e'
                  cases e'
                  have t2 := t1.trans (same_new (o := .tup [.ref L, .ref T, .ref D]) nt)
                  exact ⟨t, L, T, D, xs, rfl, hw.nL, hw.nT, hw.nD, upd_same, t2 _ _ hw.eL, dps_same t2 hw.dL, t2 _ _ hw.eT, t2 _ _ hw.eD⟩
                · rw [hD, if_pos e] at e'
                  cases e'
              · refine LK.ifF (by simpa using e) ⟨_, rfl, _, rfl, F, _, rfl, .inl (SqL.of (t1 _ _ hw.eF)), by show 2 ≤ sizeLine; decide, fun p2 np2 => ⟨by show 2 ≤ sizeLine; decide, fun t nt => k _ _ (hw.sm.trans (t1.trans ((same_new np2).trans (same_new nt)))) (fun st' e' => ?_) (fun _ => ⟨t, _, _, rfl, upd_same⟩)⟩⟩
                rw [hD, if_neg e] at e'
                cases e'
end
end X6
/-! _law_work_done answers workD. -/
namespace X6
open PySem PySem.Spec PyProof.Rows L2 LK MXo
abbrev sWork : Stmt := top 35
theorem scWork : FnScope ["yarn", "size", "courses", "k", "state"] ["yarn", "size", "courses"] (defScope sWork) := ⟨rfl, rfl, rfl, by decide +kernel, rfl, by decide +kernel, by decide +kernel⟩
def couD (c : Str × List Sti) : PyData := cou c.1 c.2
theorem Told3.old {K : PySem.W.Frag} {H0 H1 H : Hp} {v : V} {st : St3} (s : Same H0 H1) (h : Told3 K H1 H v st) : Told3 K H0 H v st := by
  obtain ⟨t, L, T, D, xs, rfl, a, b, c, r⟩ := h
  exact ⟨t, L, T, D, xs, rfl, gone s a, gone s b, gone s c, r⟩
def small3 (st : St3) : Prop := st.1.length ≤ 10000 ∧ st.2.1.length ≤ 10000 ∧ st.2.2.length ≤ 10000
def spWork (K : PySem.W.Frag) : Sp := fun vs H Q _ => ∃ (y0 : Str) (n : Nat) (ca : Addr) (cxs : List V) (cs : List (Str × List Sti)), vs = [.str y0, .int n, .ref ca] ∧ SqL K H ca cxs ∧ DpAll K H cxs (cs.map couD) ∧ n ≤ 1000 ∧ cs.length ≤ 1000 ∧ (∀ c ∈ cs, c.2.length ≤ 1000 ∧ ∀ q ∈ c.2, smallQ q) ∧ (∀ k st', workD (cs.take k) (laid y0 n) = some st' → small3 st') ∧
  ∀ (v : V) (H' : Hp), Same H H' → (∀ st', workD cs (laid y0 n) = some st' → Told3 K H H' v st') → (workD cs (laid y0 n) = none → ∃ t a b, v = .ref t ∧ H' t = some (.tup [a, b])) → Q v H'
theorem workD_succ {cs : List (Str × List Sti)} {i : Nat} {c : Str × List Sti} {st st' : St3} (h : workD (cs.take i) st = some st') (hc : cs[i]? = some c) : workD (cs.take (i + 1)) st = rowD c.1 c.2 st' := by
  rw [List.take_add_one, hc, Option.toList_some, workD_app, h]
  show (rowD c.1 c.2 st').bind (workD []) = rowD c.1 c.2 st'
  cases rowD c.1 c.2 st' <;> rfl
theorem workD_fail {cs : List (Str × List Sti)} {i : Nat} {st : St3} (h : workD (cs.take i) st = none) : workD cs st = none := by
  rw [← List.take_append_drop i cs, workD_app, h]
  rfl
section
variable {P : Program} {w : World} {K : PySem.W.Frag} {mg : Str → Option Value} {base : Heap}
theorem ok_work {f fr : Addr} {fd fdr : FuncData} (F : Fun K "_law_work_done" "_law_work_done" sWork f fd) (Fr : Fun K "_law_row_done" "_law_row_done" sRow fr fdr) (B : Bl mg) (gr : mg "_law_row_done" = some (.ref fr)) (br : Binds K fdr ["loops_here", "fast_here", "needle_here", "course", "number"] []) (Gr : FnOk P w K mg base CX0 1 fr fdr ["loops_here", "fast_here", "needle_here", "course", "number"] (spRow K)) :
    FnOk P w K mg base CX0 2 f fd ["yarn", "size", "courses"] (spWork K) := by
  refine F.ok scWork (fun vs H Q E h => ?_) (fun cdv A outer s H vs Q E hr h => ?_)
  · obtain ⟨y0, n, ca, _, _, rfl, _⟩ := h
    rfl
  · obtain ⟨y0, n, ca, cxs, cs, rfl, hc, dc, n0, l0, sq, bd, k⟩ := h
    refine ⟨_, pss_cons (ps_set (i := 4) scWork.nd rfl (Or.inl rfl) (pe_tup (pa_cons (pe_lc (own := [("k", 3)]) (g := gName 3) (tt := tYes) rfl scWork.nd (pi_range1 (by rfl) (B "range" (by decide)) (pa_cons (pv 1) pa_nil)) (blkOk_by (N := ["yarn", "size", "courses", "k", "state"]) (sc := defScope sWork) (by decide +kernel)) (fun _ _ _ _ _ => pg_name (i := 3) scWork.nd rfl (Or.inl rfl)) (fun _ _ _ _ _ => pts_nil) (fun _ _ _ _ _ => pe_tup (pa_cons (pv 0) (pa_cons (pe_tup pa_nil) pa_nil)))) (pa_cons (pe_lst pa_nil) (pa_cons (pe_listRg rfl (by rfl) (B "list" (by decide)) (prg_1 (by rfl) (B "range" (by decide)) (pv 1))) pa_nil)))))
      (pss_cons (ps_for PassesOwn.never rfl (pi_range1 (by rfl) (B "range" (by decide)) (pa_cons (pe_callB call_len_seq (by rfl) (B "len" (by decide)) (by decide +kernel) (pa_cons (pv 2) pa_nil)) pa_nil)) (pg_name (i := 3) scWork.nd rfl (Or.inl rfl)) (pss_cons (ps_set (i := 4) scWork.nd rfl (Or.inl rfl) (pe_call (E := E0) Gr (hr.mono (by decide)) rfl gr Fr.kp br .nil pass0 (pa_cons (pe_ix (ixt (K := K)) (pv 4) pe_int (fun _ _ => rfl)) (pa_cons (pe_ix (ixt (K := K)) (pv 4) pe_int (fun _ _ => rfl)) (pa_cons (pe_ix (ixt (K := K)) (pv 4) pe_int (fun _ _ => rfl)) (pa_cons (pe_ix ix_list (pv 2) (pv 3) (fun _ _ => rfl)) (pa_cons (pv 3) pa_nil)))))))
      (pss_one (ps_if (pt_cmpR op_eq (pe_callB call_len_seq (by rfl) (B "len" (by decide)) (by decide +kernel) (pa_cons (pv 4) pa_nil)) pe_int (nomark _)) (pss_one (ps_ret (pv 4))) pss_nil))))
      (pss_one (ps_ret (pv 4)))), ?_⟩
    have cl := dps_len dc
    rw [List.length_map] at cl
    have ty2 : sizeLine = 16777216 := sizeLine_eq
    refine ⟨_, rfl, (n : Int), rfl, by omega, by omega, fun L nL => ?_⟩
    refine lc_range (lo := 0) (n := n) (fun j H' => ∃ xs, Same H H' ∧ H' L = some (.lst xs) ∧ DpAll K H' xs ((List.replicate j (y0, ([] : List Int))).map lpD)) ⟨[], same_new nL, upd_same, .nil⟩ (fun j H' hj hh => ⟨rfl, ?_⟩) (fun H' hh => ?_)
    · obtain ⟨xs, s1, eL, dL⟩ := hh
      refine ⟨_, rfl, by show 0 ≤ sizeLine; decide, fun e ne => ⟨by show 2 ≤ sizeLine; decide, fun t nt => ?_⟩⟩
      have t1 := same_new (o := .tup []) ne
      have t2 := t1.trans (same_new (o := .tup [.str y0, .ref e]) nt)
      have xl := dps_len dL
      rw [List.length_map, List.length_replicate] at xl
      have np : ∀ {b : Addr} {o : HO}, H b = some o → b ≠ L := fun e => ne_of_none e nL
      refine ⟨xs, t2 _ _ eL, by omega, xs ++ [.ref t], fun b o e' => ?_, upd_same, ?_⟩
      · rw [upd_ne (np e')]
        exact t2 _ _ (s1 _ _ e')
      · rw [List.replicate_succ', List.map_append]
        have e2 := t2 _ _ eL
        refine dps_app (lps_tk (Tk.own e2) (dps_same t2 dL)) (.cons (lp_tk (Tk.own e2) (l := (y0, [])) ?_) .nil)
        exact .tup (.inl (.inl upd_same)) (.cons (.str y0) (.cons (.tup (.inl (.inl (same_new nt _ _ upd_same))) .nil) .nil))
    · obtain ⟨xs, s1, eL, dL⟩ := hh
      refine ⟨by show 0 ≤ sizeLine; decide, fun T nT => ⟨_, rfl, (n : Int), rfl, RgOk.of_le (by omega) (by omega) (by omega) (by omega), fun D nD => ⟨by show 3 ≤ sizeLine; decide, fun t nt => ?_⟩⟩⟩
      have t1 := same_new (o := .lst []) nT
      have t2 := t1.trans (same_new (o := .lst (rgV 0 (n : Int))) nD)
      have t3 := t2.trans (same_new (o := .tup [.ref L, .ref T, .ref D]) nt)
      have st0 : Told3 K H (upd (upd (upd H' T (.lst [])) D (.lst (rgV 0 (n : Int)))) t (.tup [.ref L, .ref T, .ref D])) (.ref t) (laid y0 n) := by
        refine ⟨t, L, T, D, xs, rfl, nL, gone s1 nT, gone (s1.trans t1) nD, upd_same, t3 _ _ eL, dps_same t3 dL, ?_, ?_⟩
        · exact same_new nt _ _ (same_new nD _ _ upd_same)
        · rw [same_new nt _ _ (upd_same (a := D) (o := .lst (rgV 0 (n : Int))))]
          show some (HO.lst (rgV 0 (n : Int))) = some (HO.lst (((List.range n).map fun i : Nat => (i : Int)).map V.int))
          unfold rgV
          rw [List.map_map, show ((n : Int) - 0).toNat = n by omega]
          congr 2
          refine List.map_congr_left fun i _ => ?_
          show V.int (0 + (i : Int)) = V.int (i : Int)
          rw [Int.zero_add]
      have s3 := s1.trans t3
      refine ⟨_, rfl, ca, cxs, rfl, .inl (s3.seq hc), _, rfl, by omega, by omega, ?_⟩
      refine for_range (lo := 0) (n := cxs.length) (fun i σ Hn => ∃ (st' : St3) (v : V) (o3 : Option V), σ = [some (.str y0), some (.int n), some (.ref ca), o3, some v] ∧ workD (cs.take i) (laid y0 n) = some st' ∧ Same H Hn ∧ Told3 K H Hn v st')
        ⟨laid y0 n, _, _, rfl, rfl, s3, st0⟩ (fun i σ H2 hi hI => ?_) (fun σ H2 hI => ?_)
      · obtain ⟨st', v, o3, rfl, hw, s4, told⟩ := hI
        obtain ⟨t, L, T, D, xs, rfl, nL, nT, nD, et, eL, dL, eT, eD⟩ := told
        obtain ⟨vc, dc', q1, q2, q3⟩ := dps_at (dps_same s4 dc) (i := i) (by rw [List.length_map]; omega)
        rw [List.getElem?_map] at q2
        obtain ⟨c, hcc, rfl⟩ := Option.map_eq_some_iff.mp q2
        have cm := sq c (List.mem_of_getElem? hcc)
        have bb := bd i st' hw
        have nxt := workD_succ hw hcc
        have q3' := q3
        cases q3 with
        | @tup co _ _ sco dco =>
          refine ⟨_, rfl, t, _, 0, _, rfl, rfl, SqT.of et, atI_nat (j := 0) rfl, _, rfl, t, _, 1, _, rfl, rfl, SqT.of et, atI_nat (j := 1) rfl, _, rfl, t, _, 2, _, rfl, rfl, SqT.of et, atI_nat (j := 2) rfl, _, rfl, _, rfl, ca, cxs, _, _, rfl, rfl, s4.seq hc, by rw [Int.zero_add]; exact atI_nat q1, _, rfl, ?_⟩
          refine ⟨L, T, D, co, _, xs, st', c.1, c.2, rfl, SqL.of eL, dL, SqL.of eT, SqL.of eD, q3', bb.1, bb.2.1, bb.2.2, cm.1, cm.2, fun v H3 s5 yes no => ?_⟩
          cases hr2 : rowD c.1 c.2 st' with
          | some st2 =>
            obtain ⟨t2, L2, T2, D2, xs2, rfl, told2⟩ := yes st2 hr2
            refine ⟨_, rfl, t2, _, rfl, .inr (SqT.of told2.2.2.2.1), rfl, _, rfl, LK.ifF rfl ⟨st2, _, _, rfl, nxt.trans hr2, s4.trans s5, Told3.old s4 ⟨t2, L2, T2, D2, xs2, rfl, told2⟩⟩⟩
          | none =>
            obtain ⟨t2, a2, b2, rfl, e2⟩ := no hr2
            refine ⟨_, rfl, t2, _, rfl, .inr (SqT.of e2), rfl, _, rfl, LK.ifT rfl ⟨_, rfl, k _ _ (s4.trans s5) (fun st3 e => ?_) (fun _ => ⟨t2, a2, b2, rfl, e2⟩)⟩⟩
            rw [workD_fail (nxt.trans hr2)] at e
            cases e
      · obtain ⟨st', v, o3, rfl, hw, s4, told⟩ := hI
        rw [cl, List.take_length] at hw
        refine ⟨_, rfl, k _ _ s4 (fun st2 e => ?_) (fun e => ?_)⟩
        · rw [hw] at e
          cases e
          exact told
        · rw [hw] at e
          cases e
end
end X6
/-! _law_drawn_row: what is drawn for a row. -/
namespace X6
open PySem PySem.Spec PyProof.Rows L2 LK MXo
abbrev sDRow : Stmt := top 33
theorem scDRow : FnScope ["creel", "count", "yarns", "finite", "found", "left", "turn", "many", "way"] ["creel", "count", "yarns", "finite"] (defScope sDRow) := ⟨rfl, rfl, rfl, by decide +kernel, rfl, by decide +kernel, by decide +kernel⟩
theorem stJ {t : TS} {D : Ends} {σ : St} {H : Hp} (R : St → Hp → Prop) (h : ∀ D' : Ends, (∀ σ' H', R σ' H' → D'.nx σ' H') → t D' σ H) (q : ∀ σ' H', R σ' H' → D.nx σ' H') : t D σ H := h D q
theorem if3J {t1 t2 t3 : TT} {a b c e : TS} {D : Ends} {σ : St} {H : Hp} (R : Hp → Prop) (hb : ∀ Hn, R Hn → e D σ Hn) (h : (∀ Hn, R Hn → e D σ Hn) → tIfS t1 a (tIfS t2 b (tIfS t3 c e)) D σ H) : tIfS t1 a (tIfS t2 b (tIfS t3 c e)) D σ H := h hb
theorem exK2 {te : TE} {σ : St} {H : Hp} {Q : VK} (R : V → Hp → Prop) (h : ∀ Q' : VK, (∀ x H', R x H' → Q' x H') → te σ H Q') (q : ∀ x H', R x H' → Q x H') : te σ H Q := h Q q
theorem sti_of {K : PySem.W.Frag} {H : Hp} {t : Addr} (j k : Nat) {a b : Int} (ha : a = j) (hb : b = k) (h : H t = some (.tup [.int a, .int b])) : Dp K H (.ref t) (stiD (.st j k)) := by
  subst ha hb
  exact .tup (SqT.of h) (.cons (.int _) (.cons (.int _) .nil))
theorem dps_rep {K : PySem.W.Frag} {H : Hp} {x : V} {q : Sti} (h : Dp K H x (stiD q)) : ∀ n : Nat, DpAll K H (List.replicate n [x]).flatten ((List.replicate n q).map stiD)
  | 0 => .nil
  | n + 1 => .cons h (dps_rep h n)
theorem sti_tk {K : PySem.W.Frag} {H H' : Hp} (e : Tk H H') {x : V} {q : Sti} (h : Dp K H x (stiD q)) : Dp K H' x (stiD q) := by
  cases q with
  | pas => cases h; exact .str _
  | crs => cases h; exact .str _
  | chn => cases h; exact .str _
  | st j k =>
    cases h with
    | tup s d => exact .tup (sqT_tk e s) (dp_tk_ints (ns := [(j : Int), (k : Int)]) d)
theorem stis_tk {K : PySem.W.Frag} {H H' : Hp} (e : Tk H H') : ∀ {xs : List V} {qs : List Sti}, DpAll K H xs (qs.map stiD) → DpAll K H' xs (qs.map stiD)
  | _, [], .nil => .nil
  | _, _ :: _, .cons a r => .cons (sti_tk e a) (stis_tk e r)
theorem cou_tk {K : PySem.W.Frag} {H H' : Hp} (e : Tk H H') {x : V} {y : Str} {qs : List Sti} (h : Dp K H x (cou y qs)) : Dp K H' x (cou y qs) := by
  cases h with
  | tup s d =>
    cases d with
    | cons d1 d =>
      cases d1
      cases d with
      | cons d2 d =>
        cases d
        cases d2 with
        | tup s2 d2 => exact .tup (sqT_tk e s) (.cons (.str _) (.cons (.tup (sqT_tk e s2) (stis_tk e d2)) .nil))
/-- stitches under way: the list at G -/
structure Qw (K : PySem.W.Frag) (H Hn : Hp) (c G : Addr) (B : Nat) (qs : List Sti) (xs : List V) : Prop where
  ne : c ≠ G
  cr : CR Hn c B
  bt : Bt c H Hn
  eG : Hn G = some (.lst xs)
  dG : DpAll K Hn xs (qs.map stiD)
  nG : H G = none
  sm : ∀ q ∈ qs, smallQ q
theorem Qw.call {K : PySem.W.Frag} {H Hn H' : Hp} {c G : Addr} {B : Nat} {qs : List Sti} {xs : List V} (h : Qw K H Hn c G B qs xs) (h1 : CR H' c (B + 1)) (bt : Bt c Hn H') : Qw K H H' c G (B + 1) qs xs :=
  ⟨h.ne, h1, h.bt.trans bt, bt _ _ h.ne.symm h.eG, stis_tk (Tk.bt h.cr bt) h.dG, h.nG, h.sm⟩
theorem Qw.new {K : PySem.W.Frag} {H Hn : Hp} {c G p : Addr} {B : Nat} {qs : List Sti} {xs : List V} {o : HO} (h : Qw K H Hn c G B qs xs) (np : Hn p = none) : Qw K H (upd Hn p o) c G B qs xs :=
  ⟨h.ne, h.cr.same (same_new np), h.bt.trans (Bt.of (same_new np)), same_new np _ _ h.eG, stis_tk (Tk.same (same_new np)) h.dG, h.nG, h.sm⟩
theorem Qw.mono {K : PySem.W.Frag} {H Hn : Hp} {c G : Addr} {B B' : Nat} {qs : List Sti} {xs : List V} (h : Qw K H Hn c G B qs xs) (l : B ≤ B') : Qw K H Hn c G B' qs xs := ⟨h.ne, h.cr.mono l, h.bt, h.eG, h.dG, h.nG, h.sm⟩
theorem Qw.app {K : PySem.W.Frag} {H Hn : Hp} {c G : Addr} {B : Nat} {qs : List Sti} {xs : List V} {x : V} {q : Sti} (h : Qw K H Hn c G B qs xs) (d : Dp K Hn x (stiD q)) (s : smallQ q) : Qw K H (upd Hn G (.lst (xs ++ [x]))) c G B (qs ++ [q]) (xs ++ [x]) :=
  ⟨h.ne, h.cr.upd h.ne.symm, fun b u n e => by rw [upd_ne (ne_of_none e h.nG)]; exact h.bt b u n e, upd_same, by
    rw [List.map_append]
    exact dps_app (stis_tk (Tk.own h.eG) h.dG) (.cons (sti_tk (Tk.own h.eG) d) .nil), h.nG, fun q' hq => by
    rcases List.mem_append.mp hq with hq | hq
    · exact h.sm q' hq
    · rw [List.mem_singleton.mp hq]
      exact s⟩
def spDRow (K : PySem.W.Frag) : Sp := fun vs H Q _ => ∃ (c ya : Addr) (n B : Nat) (ys : List Str) (fin : Bool), vs = [.ref c, .int n, .ref ya, .bl fin] ∧ n ≤ 100 ∧ CR H c B ∧ B + 3000 < 10 ^ 12 ∧ Ys H ya ys ∧ ys ≠ [] ∧ ys.length ≤ 1000 ∧
  ∀ (t : V) (H' : Hp) (y : Str) (qs : List Sti), Dp K H' t (cou y qs) → CR H' c (B + 3000) → Bt c H H' → y ∈ ys → qs.length ≤ 1000 → (∀ q ∈ qs, smallQ q) → Q t H'
section
variable {P : Program} {w : World} {K : PySem.W.Frag} {mg : Str → Option Value} {base : Heap}
theorem ok_drow {f fp : Addr} {fd fdp : FuncData} (F : Fun K "_law_drawn_row" "_law_drawn_row" sDRow f fd) (Fp : Fun K "_law_ply" "_law_ply" sPly fp fdp) (B : Bl mg) (gp : mg "_law_ply" = some (.ref fp)) (bp : Binds K fdp ["creel", "span"] []) (Gp : FnOk P w K mg base CX0 1 fp fdp ["creel", "span"] spPly) :
    FnOk P w K mg base CX0 2 f fd ["creel", "count", "yarns", "finite"] (spDRow K) := by
  refine F.ok scDRow (fun vs H Q E h => ?_) (fun cdv A outer s H vs Q E hr h => ?_)
  · obtain ⟨c, ya, n, bb, ys, fin, rfl, _⟩ := h
    rfl
  · obtain ⟨c, ya, n, bb, ys, fin, rfl, hn, hc, hB, hy, hne, hyl, k⟩ := h
    refine ⟨_, pss_cons (ps_par (i := 4) (j := 5) rfl scDRow.nd rfl rfl (by decide) rfl rfl (pa_cons (pe_lst pa_nil) (pa_cons (pv 1) pa_nil)) (by rfl))
      (pss_cons (ps_for PassesOwn.never rfl (pi_range1 (by rfl) (B "range" (by decide)) (pa_cons (pe_op op_mul pe_int (pv 1)) pa_nil)) (pg_name (i := 6) scDRow.nd rfl (Or.inl rfl)) (pss_cons (ps_if (pt_cmpR op_eq (pv 5) pe_int (nomark _)) (pss_one ps_break) pss_nil)
      (pss_cons (ps_set (i := 7) scDRow.nd rfl (Or.inl rfl) (pe_ifExp (pt_cmpR op_eq (pe_call (E := E0) Gp (hr.mono (by decide)) rfl gp Fp.kp bp .nil pass0 (pa_cons (pv 0) (pa_cons pe_int pa_nil))) pe_int (nomark _)) (pe_callB (call_min2 rfl) (by rfl) (B "min" (by decide)) (by decide +kernel) (pa_cons (pv 5) (pa_cons (pe_op op_add pe_int (pe_call (E := E0) Gp (hr.mono (by decide)) rfl gp Fp.kp bp .nil pass0 (pa_cons (pv 0) (pa_cons pe_int pa_nil)))) pa_nil))) pe_int))
      (pss_cons (ps_set (i := 8) scDRow.nd rfl (Or.inl rfl) (pe_call (E := E0) Gp (hr.mono (by decide)) rfl gp Fp.kp bp .nil pass0 (pa_cons (pv 0) (pa_cons pe_int pa_nil))))
      (pss_one (ps_if (PW.pt (pw_and (pt_val (pv 3)) (pw_and1 (pt_cmpR op_eq (pv 8) pe_int (nomark _))))) (pss_cons (ps_expr (pe_bm PySem.F.plainAttrs_list PySem.F.slot_list_append PySem.F.type_list_append mt_append (pv 4) (pa_cons (pe_ix ix_list (pe_lst (pa_cons pe_str (pa_cons pe_str pa_nil))) (pe_call (E := E0) Gp (hr.mono (by decide)) rfl gp Fp.kp bp .nil pass0 (pa_cons (pv 0) (pa_cons pe_int pa_nil))) (fun _ _ => rfl)) pa_nil)))
      (pss_one (ps_set (i := 5) scDRow.nd rfl (Or.inl rfl) (pe_op op_sub (pv 5) pe_int)))) (pss_one (ps_if (PW.pt (pw_and (pt_val (pv 3)) (pw_and (pt_cmpR op_eq (pv 8) pe_int (nomark _)) (pw_and1 (pt_cmpR op_gt (pv 5) pe_int (nomark _)))))) (pss_one (ps_expr (pe_bm PySem.F.plainAttrs_list PySem.F.slot_list_append PySem.F.type_list_append mt_append (pv 4) (pa_cons pe_str pa_nil)))) (pss_one (ps_if (PW.pt (pw_and (pt_val (pv 3)) (pw_and (pt_cmpR op_eq (pv 8) pe_int (nomark _)) (pw_and1 (pt_cmpR op_eq (pe_call (E := E0) Gp (hr.mono (by decide)) rfl gp Fp.kp bp .nil pass0 (pa_cons (pv 0) (pa_cons pe_int pa_nil))) pe_int (nomark _)))))) (pss_cons (ps_expr (pe_bm PySem.F.plainAttrs_list PySem.F.slot_list_append PySem.F.type_list_append mt_append (pv 4) (pa_cons (pe_tup (pa_cons (pv 7) (pa_cons pe_int pa_nil))) pa_nil)))
      (pss_one (ps_set (i := 5) scDRow.nd rfl (Or.inl rfl) (pe_op op_sub (pv 5) (pv 7))))) (pss_one (ps_if (pt_cmpR op_eq (pv 8) pe_int (nomark _)) (pss_one (ps_expr (pe_bm PySem.F.plainAttrs_list PySem.F.slot_list_append PySem.F.type_list_append mt_append (pv 4) (pa_cons (pe_tup (pa_cons pe_int (pa_cons (pe_op op_add pe_int (pe_call (E := E0) Gp (hr.mono (by decide)) rfl gp Fp.kp bp .nil pass0 (pa_cons (pv 0) (pa_cons pe_int pa_nil)))) pa_nil))) pa_nil)))) (pss_cons (ps_expr (pe_bm PySem.F.plainAttrs_list PySem.F.slot_list_append PySem.F.type_list_append mt_append (pv 4) (pa_cons (pe_tup (pa_cons (pv 7) (pa_cons (pe_ifExp (pt_cmpR op_eq (pe_call (E := E0) Gp (hr.mono (by decide)) rfl gp Fp.kp bp .nil pass0 (pa_cons (pv 0) (pa_cons pe_int pa_nil))) pe_int (nomark _)) (pe_op op_add pe_int (pe_call (E := E0) Gp (hr.mono (by decide)) rfl gp Fp.kp bp .nil pass0 (pa_cons (pv 0) (pa_cons pe_int pa_nil)))) pe_int) pa_nil))) pa_nil)))
      (pss_one (ps_set (i := 5) scDRow.nd rfl (Or.inl rfl) (pe_op op_sub (pv 5) (pv 7)))))))))))))))))
      (pss_cons (ps_if (PW.pt (pw_and (pt_cmpR op_eq (pv 1) pe_int (nomark _)) (pw_and1 (pt_cmpR op_eq (pe_call (E := E0) Gp (hr.mono (by decide)) rfl gp Fp.kp bp .nil pass0 (pa_cons (pv 0) (pa_cons pe_int pa_nil))) pe_int (nomark _))))) (pss_one (ps_expr (pe_bm PySem.F.plainAttrs_list PySem.F.slot_list_append PySem.F.type_list_append mt_append (pv 4) (pa_cons (pe_tup (pa_cons pe_int (pa_cons (pe_op op_add pe_int (pe_call (E := E0) Gp (hr.mono (by decide)) rfl gp Fp.kp bp .nil pass0 (pa_cons (pv 0) (pa_cons pe_int pa_nil)))) pa_nil))) pa_nil)))) pss_nil)
      (pss_one (ps_ret (pe_tup (pa_cons (pe_ix ix_list (pv 2) (pe_call (E := E0) Gp (hr.mono (by decide)) rfl gp Fp.kp bp .nil pass0 (pa_cons (pv 0) (pa_cons (pe_callB call_len_seq (by rfl) (B "len" (by decide)) (by decide +kernel) (pa_cons (pv 2) pa_nil)) pa_nil))) (fun _ _ => rfl)) (pa_cons (pe_callTy call_tuple_of (by rfl) (B "tuple" (by decide)) (by decide +kernel) (pa_cons (pe_op op_cat (pv 4) (pe_op op_rep (pe_lst (pa_cons (pe_tup (pa_cons pe_int (pa_cons pe_int pa_nil))) pa_nil)) (pv 5))) pa_nil)) pa_nil))))))), ?_⟩
    have cy : ya ≠ c := by
      intro e
      subst e
      obtain ⟨_, _, _, e, _⟩ := hc
      rw [Ys, e] at hy
      cases ys with
      | nil => exact hne rfl
      | cons a r => simp at hy
    have ty2 : sizeLine = 16777216 := sizeLine_eq
    refine ⟨by show 0 ≤ sizeLine; decide, fun G nG => ⟨_, rfl, _, _, rfl, ?_⟩⟩
    have cG : c ≠ G := hc.fresh nG
    have w0 : Qw K H (upd H G (.lst [])) c G bb [] [] := ⟨cG, hc.upd cG.symm, Bt.of (same_new nG), upd_same, .nil, nG, fun q h => absurd h List.not_mem_nil⟩
    dsimp only [tSeq]
    refine stJ (fun σ Hn => ∃ (qs : List Sti) (xs : List V) (left : Int) (o6 o7 o8 : Option V), σ = [some (.ref c), some (.int n), some (.ref ya), some (.bl fin), some (.ref G), some (.int left), o6, o7, o8] ∧ 0 ≤ left ∧ left ≤ n ∧ qs.length ≤ 2 * n ∧ Qw K H Hn c G (bb + 12 * n) qs xs) (fun D' aft => ?_) ?_
    · refine ⟨_, rfl, _, _, rfl, rfl, .inl ⟨by decide, by omega⟩, _, rfl, by omega, by omega, ?_⟩
      refine for_range (lo := 0) (n := 2 * n) (fun i σ Hn => ∃ (qs : List Sti) (xs : List V) (left : Int) (o6 o7 o8 : Option V), σ = [some (.ref c), some (.int n), some (.ref ya), some (.bl fin), some (.ref G), some (.int left), o6, o7, o8] ∧ 0 ≤ left ∧ left ≤ n ∧ qs.length ≤ i ∧ Qw K H Hn c G (bb + 6 * i) qs xs)
        ⟨[], [], n, _, _, _, rfl, by omega, by omega, Nat.zero_le _, w0⟩ (fun i σ H2 hi hI => ?_) (fun σ H2 hI => ?_)
      · obtain ⟨qs, xs, left, o6, o7, o8, rfl, l0, l1, ql, hq⟩ := hI
        refine ⟨_, rfl, rfl, _, rfl, ?_⟩
        by_cases l00 : left = 0
        · subst l00
          exact LK.ifT rfl (aft _ _ ⟨qs, xs, 0, _, _, _, rfl, by omega, by omega, by omega, hq.mono (by omega)⟩)
        refine LK.ifF (by simpa using l00) ?_
        have xl : xs.length = qs.length := by rw [dps_len hq.dG, List.length_map]
        dsimp only [tNext, tSeq, tAsg]
        refine exK2 (fun x H' => ∃ m : Nat, x = .int (m : Int) ∧ m ≤ 3 ∧ (m : Int) ≤ left ∧ Qw K H H' c G (bb + 6 * i + 2) qs xs) (fun Q' q' => ?_) ?_
        · refine ⟨_, rfl, c, 3, _, rfl, by decide, by decide, hq.cr, by omega, fun d1 H3 d10 d11 h3 b3 n3 => ⟨rfl, _, rfl, ?_⟩⟩
          have hq1 := hq.call h3 b3
          by_cases z : d1 = 0
          · subst z
            refine LK.ifT rfl ⟨_, rfl, _, rfl, c, 3, _, rfl, by decide, by decide, hq1.cr, by omega, fun d2 H4 d20 d21 h4 b4 n4 => ⟨_, _, rfl, rfl, _, _, rfl, ?_⟩⟩
            have hq2 := hq1.call h4 b4
            obtain ⟨mm, hmm, m0, m1, m2⟩ : ∃ mm : Int, (if 1 + d2 < left then 1 + d2 else left) = mm ∧ 0 ≤ mm ∧ mm ≤ 3 ∧ mm ≤ left := ⟨_, rfl, by split <;> omega, by split <;> omega, by split <;> omega⟩
            rw [hmm]
            exact q' _ _ ⟨mm.toNat, by rw [Int.toNat_of_nonneg m0], by omega, by omega, hq2⟩
          · exact LK.ifF (by simpa using z) (q' _ _ ⟨1, rfl, by omega, by omega, hq1.mono (by omega)⟩)
        rintro x H3 ⟨m, rfl, m1, m2, hq2⟩
        refine ⟨_, rfl, c, 9, _, rfl, by decide, by decide, hq2.cr, by omega, fun way H4 w0 w1 h4 b4 n4 => ?_⟩
        have hq3 := hq2.call h4 b4
        dsimp only [gName]
        have nx : ∀ (qs' : List Sti) (xs' : List V) (l' : Int) (Hn : Hp) (o6 o7 o8 : Option V), 0 ≤ l' → l' ≤ left → qs'.length ≤ i + 1 → Qw K H Hn c G (bb + 6 * (i + 1)) qs' xs' → ∃ (qs : List Sti) (xs : List V) (left : Int) (o6' o7' o8' : Option V), [some (.ref c), some (.int n), some (.ref ya), some (.bl fin), some (.ref G), some (.int l'), o6, o7, o8] = [some (.ref c), some (.int n), some (.ref ya), some (.bl fin), some (.ref G), some (.int left), o6', o7', o8'] ∧ 0 ≤ left ∧ left ≤ n ∧ qs.length ≤ i + 1 ∧ Qw K H Hn c G (bb + 6 * (i + 1)) qs xs := fun qs' xs' l' Hn o6 o7 o8 a b d e => ⟨qs', xs', l', o6, o7, o8, rfl, a, by omega, d, e⟩
        have qa : ∀ q : Sti, (qs ++ [q]).length ≤ i + 1 := fun q => by rw [List.length_append, List.length_singleton]; omega
        refine if3J (fun Hn => Qw K H Hn c G (bb + 6 * i + 4) qs xs) (fun Hn hq4 => ?_) (fun last => ?_)
        · refine ⟨_, rfl, rfl, _, rfl, ?_⟩
          by_cases w3 : way = 3
          · subst w3
            refine LK.ifT rfl ?_
            refine ⟨_, rfl, .inl ⟨rfl, _, SqL.of hq4.eG⟩, _, rfl, c, 3, _, rfl, by decide, by decide, hq4.cr, by omega, fun d H5 d0 d1 h5 b5 n5 => ⟨_, _, rfl, rfl, by show 2 ≤ sizeLine; decide, fun t nt => ?_⟩⟩
            have hq5 := (hq4.call h5 b5).new (o := .tup [.int 0, .int (1 + d)]) nt
            exact ⟨G, xs, .ref t, rfl, rfl, hq5.eG, by omega, nx _ _ _ _ _ _ _ (by omega) (by omega) (qa _) ((hq5.app (sti_of 0 (1 + d).toNat (by rfl) (by omega) upd_same) ⟨by omega, by omega⟩).mono (by omega))⟩
          · refine LK.ifF (by simpa using w3) ?_
            refine ⟨_, rfl, .inl ⟨rfl, _, SqL.of hq4.eG⟩, _, rfl, ?_⟩
            dsimp only [tCons]
            refine exK2 (fun x H' => ∃ e : Nat, x = .int (e : Int) ∧ e ≤ 3 ∧ Qw K H H' c G (bb + 6 * i + 6) qs xs) (fun Q' q' => ?_) ?_
            · refine ⟨_, rfl, c, 3, _, rfl, by decide, by decide, hq4.cr, by omega, fun d1 H5 d10 d11 h5 b5 n5 => ⟨rfl, _, rfl, ?_⟩⟩
              have hq5 := hq4.call h5 b5
              by_cases z : d1 = 0
              · subst z
                refine LK.ifT rfl ⟨_, rfl, c, 3, _, rfl, by decide, by decide, hq5.cr, by omega, fun d2 H6 d20 d21 h6 b6 n6 => ⟨_, _, rfl, rfl, ?_⟩⟩
                have hq6 := hq5.call h6 b6
                exact q' _ _ ⟨(1 + d2).toNat, by rw [Int.toNat_of_nonneg (by omega)], by omega, hq6⟩
              · exact LK.ifF (by simpa using z) (q' _ _ ⟨1, rfl, by omega, hq5.mono (by omega)⟩)
            rintro x H6 ⟨e, rfl, e3, hq6⟩
            refine ⟨by show 2 ≤ sizeLine; decide, fun t nt => ?_⟩
            have hq7 := hq6.new (o := .tup [.int (m : Int), .int (e : Int)]) nt
            exact ⟨G, xs, .ref t, rfl, rfl, hq7.eG, by omega, _, rfl, _, rfl, _, _, rfl, rfl, nx _ _ _ _ _ _ _ (by omega) (by omega) (qa _) ((hq7.app (sti_of m e rfl rfl upd_same) ⟨by omega, by omega⟩).mono (by omega))⟩
        · cases fin with
          | false => exact ⟨_, rfl, _, rfl, LK.ifF rfl ⟨_, rfl, _, rfl, LK.ifF rfl ⟨_, rfl, _, rfl, LK.ifF rfl (last _ (hq3.mono (by omega)))⟩⟩⟩
          | true =>
            refine ⟨_, rfl, _, rfl, LK.ifT rfl ⟨_, rfl, rfl, _, rfl, ?_⟩⟩
            by_cases wz : way = 0
            · subst wz
              refine LK.ifT rfl ?_
              refine ⟨_, rfl, .inl ⟨rfl, _, SqL.of hq3.eG⟩, by show 2 ≤ sizeLine; decide, fun T nT => ?_⟩
              have hq4 := hq3.new (o := .lst [.str (Str.ofString "pass"), .str (Str.ofString "chain")]) nT
              have cT : T ≠ c := (hq3.cr.fresh nT).symm
              refine ⟨_, rfl, c, 2, _, rfl, by decide, by decide, hq4.cr, by omega, fun d H5 d0 d1 h5 b5 n5 => ?_⟩
              have hq5 := hq4.call h5 b5
              have eT := b5 _ _ cT (upd_same (H := H4) (a := T) (o := .lst [.str (Str.ofString "pass"), .str (Str.ofString "chain")]))
              obtain rfl | rfl : d = 0 ∨ d = 1 := by omega
              · exact ⟨T, _, 0, _, rfl, rfl, SqL.of eT, rfl, G, xs, _, rfl, rfl, hq5.eG, by omega, _, rfl, _, _, rfl, rfl, nx _ _ _ _ _ _ _ (by omega) (by omega) (qa _) ((hq5.app (q := .pas) (.str _) trivial).mono (by omega))⟩
              · exact ⟨T, _, 1, _, rfl, rfl, SqL.of eT, rfl, G, xs, _, rfl, rfl, hq5.eG, by omega, _, rfl, _, _, rfl, rfl, nx _ _ _ _ _ _ _ (by omega) (by omega) (qa _) ((hq5.app (q := .chn) (.str _) trivial).mono (by omega))⟩
            · refine LK.ifF (by simpa using wz) ?_
              refine ⟨_, rfl, _, rfl, LK.ifT rfl ⟨_, rfl, rfl, _, rfl, ?_⟩⟩
              by_cases w1' : way = 1
              · subst w1'
                refine LK.ifT rfl ⟨_, rfl, _, _, rfl, rfl, _, rfl, ?_⟩
                by_cases l2 : 1 < left
                · refine LK.ifT (decide_eq_true l2) ?_
                  exact ⟨_, rfl, .inl ⟨rfl, _, SqL.of hq3.eG⟩, G, xs, _, rfl, rfl, hq3.eG, by omega, nx _ _ _ _ _ _ _ (by omega) (by omega) (qa _) ((hq3.app (q := .crs) (.str _) trivial).mono (by omega))⟩
                · refine LK.ifF (decide_eq_false l2) ?_
                  exact ⟨_, rfl, _, rfl, LK.ifT rfl ⟨_, rfl, rfl, _, rfl, LK.ifF rfl (last _ (hq3.mono (by omega)))⟩⟩
              · refine LK.ifF (by simpa using w1') ?_
                refine ⟨_, rfl, _, rfl, LK.ifT rfl ⟨_, rfl, rfl, _, rfl, ?_⟩⟩
                by_cases w2 : way = 2
                · subst w2
                  refine LK.ifT rfl ⟨_, rfl, c, 3, _, rfl, by decide, by decide, hq3.cr, by omega, fun d H5 d0 d1 h5 b5 n5 => ⟨rfl, _, rfl, ?_⟩⟩
                  have hq4 := hq3.call h5 b5
                  by_cases z : d = 0
                  · subst z
                    refine LK.ifT rfl ?_
                    refine ⟨_, rfl, .inl ⟨rfl, _, SqL.of hq4.eG⟩, _, rfl, by show 2 ≤ sizeLine; decide, fun t nt => ?_⟩
                    have hq5 := hq4.new (o := .tup [.int (m : Int), .int 0]) nt
                    exact ⟨G, xs, .ref t, rfl, rfl, hq5.eG, by omega, _, rfl, _, rfl, _, _, rfl, rfl, nx _ _ _ _ _ _ _ (by omega) (by omega) (qa _) ((hq5.app (sti_of m 0 rfl rfl upd_same) ⟨by omega, by omega⟩).mono (by omega))⟩
                  · exact LK.ifF (by simpa using z) (last _ (hq4.mono (by omega)))
                · exact LK.ifF (by simpa using w2) (last _ (hq3.mono (by omega)))
      · obtain ⟨qs, xs, left, o6, o7, o8, rfl, l0, l1, ql, hq⟩ := hI
        exact aft _ _ ⟨qs, xs, left, _, _, _, rfl, l0, l1, by omega, hq.mono (by omega)⟩
    · rintro σ Hn ⟨qs, xs, left, o6, o7, o8, rfl, l0, l1, ql, hq⟩
      dsimp only [tSeq]
      refine stJ (fun σ Hn => ∃ (qs : List Sti) (xs : List V) (left : Int) (o6 o7 o8 : Option V), σ = [some (.ref c), some (.int n), some (.ref ya), some (.bl fin), some (.ref G), some (.int left), o6, o7, o8] ∧ 0 ≤ left ∧ left ≤ n ∧ qs.length ≤ 2 * n + 1 ∧ Qw K H Hn c G (bb + 12 * n + 2) qs xs) (fun D' aft => ?_) ?_
      · refine ⟨_, rfl, rfl, _, rfl, ?_⟩
        have xl : xs.length = qs.length := by rw [dps_len hq.dG, List.length_map]
        by_cases n0 : n = 0
        · subst n0
          refine LK.ifT rfl ⟨_, rfl, c, 2, _, rfl, by decide, by decide, hq.cr, by omega, fun d H5 d0 d1 h5 b5 n5 => ⟨rfl, _, rfl, ?_⟩⟩
          have hq5 := hq.call h5 b5
          by_cases z : d = 0
          · subst z
            refine LK.ifT rfl ?_
            refine ⟨_, rfl, .inl ⟨rfl, _, SqL.of hq5.eG⟩, _, rfl, c, 3, _, rfl, by decide, by decide, hq5.cr, by omega, fun d H6 d0 d1 h6 b6 n6 => ⟨_, _, rfl, rfl, by show 2 ≤ sizeLine; decide, fun t nt => ?_⟩⟩
            have hq6 := (hq5.call h6 b6).new (o := .tup [.int 0, .int (1 + d)]) nt
            refine ⟨G, xs, .ref t, rfl, rfl, hq6.eG, by omega, aft _ _ ⟨_, _, _, _, _, _, rfl, l0, l1, ?_, hq6.app (sti_of 0 (1 + d).toNat (by rfl) (by omega) upd_same) ⟨by omega, by omega⟩⟩⟩
            rw [List.length_append, List.length_singleton]
            omega
          · exact LK.ifF (by simpa using z) (aft _ _ ⟨_, _, _, _, _, _, rfl, l0, l1, by omega, hq5.mono (by omega)⟩)
        · exact LK.ifF (by simpa using fun e : (n : Int) = 0 => n0 (by omega)) (aft _ _ ⟨_, _, _, _, _, _, rfl, l0, l1, by omega, hq.mono (by omega)⟩)
      · rintro σ Hn ⟨qs, xs, left, o6, o7, o8, rfl, l0, l1, ql, hq⟩
        have xl : xs.length = qs.length := by rw [dps_len hq.dG, List.length_map]
        have y0 : 0 < ys.length := List.length_pos_iff.mpr hne
        refine ⟨_, rfl, _, rfl, _, rfl, ya, _, rfl, .inl (SqL.of (hq.bt _ _ cy hy)), ?_⟩
        rw [List.length_map]
        refine ⟨c, _, _, rfl, by omega, by omega, hq.cr, by omega, fun d3 H6 d30 d31 h6 b6 n6 => ?_⟩
        have hq6 := hq.call h6 b6
        obtain ⟨y, hyy⟩ : ∃ y, ys[d3.toNat]? = some y := ⟨ys[d3.toNat]'(by omega), List.getElem?_eq_getElem (by omega)⟩
        have at3 : atI (ys.map V.str) d3 = some (.str y) := by
          have := atI_nat (xs := ys.map V.str) (j := d3.toNat) (v := .str y) (by rw [List.getElem?_map, hyy]; rfl)
          rwa [show ((d3.toNat : Nat) : Int) = d3 by omega] at this
        refine ⟨ya, _, _, _, rfl, rfl, SqL.of (hq6.bt _ _ cy hy), at3, ?_⟩
        refine ⟨_, rfl, by show 2 ≤ sizeLine; decide, fun t1 nt1 => ⟨by show 1 ≤ sizeLine; decide, fun t2 nt2 => ?_⟩⟩
        have hq7 := hq6.new (o := .tup [.int 1, .int 1]) nt1
        have hq8 := hq7.new (o := .lst [.ref t1]) nt2
        have fl : (List.replicate left.toNat [V.ref t1]).flatten.length = left.toNat := by
          rw [List.length_flatten, List.map_replicate, List.sum_replicate_nat]
          simp
        refine ⟨_, rfl, t2, left, _, rfl, rfl, upd_same, by omega, by omega, ?_, fun p np => ?_⟩
        · show 1 * left.toNat ≤ sizeLine
          omega
        have hq9 := hq8.new (o := .lst (List.replicate left.toNat [V.ref t1]).flatten) np
        refine ⟨G, p, xs, _, rfl, rfl, hq9.eG, upd_same, by omega, fun p2 np2 => ?_⟩
        have hq10 := hq9.new (o := .lst (xs ++ (List.replicate left.toNat [V.ref t1]).flatten)) np2
        refine ⟨p2, _, rfl, .inl ⟨SqL.of upd_same, fun p3 np3 => ⟨by show 2 ≤ sizeLine; decide, fun t nt => ?_⟩⟩⟩
        have hq11 := hq10.new (o := .tup (xs ++ (List.replicate left.toNat [V.ref t1]).flatten)) np3
        have hq12 := hq11.new (o := .tup [.str y, .ref p3]) nt
        have s2 := (((same_new (o := .lst [.ref t1]) nt2).trans (same_new (o := .lst (List.replicate left.toNat [V.ref t1]).flatten) np)).trans (same_new (o := .lst (xs ++ (List.replicate left.toNat [V.ref t1]).flatten)) np2)).trans ((same_new (o := .tup (xs ++ (List.replicate left.toNat [V.ref t1]).flatten)) np3).trans (same_new (o := .tup [.str y, .ref p3]) nt))
        have e1 := s2 _ _ (upd_same (H := H6) (a := t1) (o := .tup [.int 1, .int 1]))
        refine k _ _ y (qs ++ List.replicate left.toNat (.st 1 1)) ?_ (hq12.cr.mono (by omega)) hq12.bt (List.mem_of_getElem? hyy) ?_ ?_
        · refine .tup (SqT.of upd_same) (.cons (.str _) (.cons (.tup (SqT.of (same_new nt _ _ upd_same)) ?_) .nil))
          rw [List.map_append]
          exact dps_app hq12.dG (dps_rep (sti_of 1 1 rfl rfl e1) _)
        · rw [List.length_append, List.length_replicate]
          omega
        · intro q hq'
          rcases List.mem_append.mp hq' with z | z
          · exact hq.sm q z
          · rw [(List.mem_replicate.mp z).2]
            exact ⟨by omega, by omega⟩
end
end X6
/-! _law_drawn_work: a work that goes well. -/
namespace X6
open PySem PySem.Spec PyProof.Rows L2 LK MXo
abbrev sDWork : Stmt := top 36
theorem scDWork : FnScope ["creel", "yarns", "most", "rows_most", "most_loops", "yarn", "size", "courses", "state", "turn", "course", "later"] ["creel", "yarns", "most", "rows_most", "most_loops"] (defScope sDWork) := ⟨rfl, rfl, rfl, by decide +kernel, rfl, by decide +kernel, by decide +kernel⟩
theorem cous_tk {K : PySem.W.Frag} {H H' : Hp} (e : Tk H H') : ∀ {xs : List V} {cs : List (Str × List Sti)}, DpAll K H xs (cs.map couD) → DpAll K H' xs (cs.map couD)
  | _, [], .nil => .nil
  | _, _ :: _, .cons a r => .cons (cou_tk e a) (cous_tk e r)
theorem ints_len {n : Nat} {xs : List Int} (nd : xs.Nodup) (h : ∀ x ∈ xs, 0 ≤ x ∧ x < (n : Int)) : xs.length ≤ n := by
  have := sub_len xs ((List.range n).map fun i : Nat => (i : Int)) nd fun x hx => by
    have := h x hx
    exact List.mem_map.mpr ⟨x.toNat, List.mem_range.mpr (by omega), by omega⟩
  rwa [List.length_map, List.length_range] at this
theorem OkT.lens {ys : List Str} {st : St3} (h : OkT ys st) : st.2.1.length ≤ st.1.length ∧ st.2.2.length ≤ st.1.length := by
  have := ints_len h.nd h.rg
  rw [List.length_append] at this
  omega
theorem Told3.bt {K : PySem.W.Frag} {H0 Hn H' : Hp} {c : Addr} {B : Nat} {v : V} {st : St3} (h : Told3 K H0 Hn v st) (hc : CR Hn c B) (h0 : H0 c ≠ none) (b : Bt c Hn H') : Told3 K H0 H' v st := by
  obtain ⟨t, L, T, D, xs, rfl, nL, nT, nD, et, eL, dL, eT, eD⟩ := h
  have ne : ∀ {p : Addr}, H0 p = none → p ≠ c := fun n e => h0 (e ▸ n)
  have tk := Tk.bt hc b
  exact ⟨t, L, T, D, xs, rfl, nL, nT, nD, tk _ _ (fun _ q => by cases q) et, b _ _ (ne nL) eL, lps_tk tk dL, b _ _ (ne nT) eT, b _ _ (ne nD) eD⟩
theorem Told3.same {K : PySem.W.Frag} {H0 Hn H' : Hp} {v : V} {st : St3} (h : Told3 K H0 Hn v st) (b : Same Hn H') : Told3 K H0 H' v st := by
  obtain ⟨t, L, T, D, xs, rfl, nL, nT, nD, et, eL, dL, eT, eD⟩ := h
  exact ⟨t, L, T, D, xs, rfl, nL, nT, nD, b _ _ et, b _ _ eL, dps_same b dL, b _ _ eT, b _ _ eD⟩
/-- rows that go well, and what they lead to -/
structure Wk (ys : List Str) (y : Str) (n M : Nat) (cs : List (Str × List Sti)) (st : St3) : Prop where
  hy : y ∈ ys
  ok : workD cs (laid y n) = some st
  sq : ∀ c ∈ cs, c.2.length ≤ 1000 ∧ ∀ q ∈ c.2, smallQ q
  pre : ∀ k st', workD (cs.take k) (laid y n) = some st' → OkT ys st' ∧ st'.1.length ≤ M
theorem Wk.good {ys : List Str} {y : Str} {n M : Nat} {cs : List (Str × List Sti)} {st : St3} (h : Wk ys y n M cs st) : OkT ys st ∧ st.1.length ≤ M := by
  have := h.pre cs.length st
  rw [List.take_length] at this
  exact this h.ok
theorem Wk.bd {ys : List Str} {y : Str} {n M : Nat} {cs : List (Str × List Sti)} {st : St3} (h : Wk ys y n M cs st) (hM : M ≤ 1000) : ∀ k st', workD (cs.take k) (laid y n) = some st' → small3 st' := fun k st' e => by
  obtain ⟨a, b⟩ := h.pre k st' e
  have := a.lens
  exact ⟨by omega, by omega, by omega⟩
theorem Wk.start {ys : List Str} {y : Str} {n M : Nat} (hy : y ∈ ys) (hM : n ≤ M) : Wk ys y n M [] (laid y n) := by
  refine ⟨hy, rfl, fun c h => absurd h List.not_mem_nil, fun k st' e => ?_⟩
  rw [List.take_nil] at e
  cases e
  refine ⟨laid_ok n hy, ?_⟩
  show (List.replicate n (y, ([] : List Int))).length ≤ M
  rw [List.length_replicate]
  exact hM
theorem Wk.more {ys : List Str} {y : Str} {n M : Nat} {cs : List (Str × List Sti)} {st st' : St3} {c : Str × List Sti} (h : Wk ys y n M cs st) (hc : c.1 ∈ ys) (hl : c.2.length ≤ 1000) (hq : ∀ q ∈ c.2, smallQ q) (e : rowD c.1 c.2 st = some st') (hM : st'.1.length ≤ M) : Wk ys y n M (cs ++ [c]) st' := by
  have all : workD (cs ++ [c]) (laid y n) = some st' := by
    rw [workD_app, h.ok]
    show (rowD c.1 c.2 st).bind (workD []) = _
    rw [e]
    rfl
  refine ⟨h.hy, all, fun d hd => ?_, fun k st2 e2 => ?_⟩
  · rcases List.mem_append.mp hd with hd | hd
    · exact h.sq d hd
    · rw [List.mem_singleton.mp hd]
      exact ⟨hl, hq⟩
  · by_cases hk : k ≤ cs.length
    · rw [List.take_append_of_le_length hk] at e2
      exact h.pre k st2 e2
    · rw [List.take_of_length_le (by rw [List.length_append, List.length_singleton]; omega), all] at e2
      cases e2
      exact ⟨h.good.1.row hc hq e, hM⟩
def spDWork (K : PySem.W.Frag) : Sp := fun vs H Q _ => ∃ (c ya : Addr) (most rm ml B : Nat) (ys : List Str), vs = [.ref c, .ref ya, .int most, .int rm, .int ml] ∧ 0 < most ∧ most ≤ 100 ∧ rm ≤ 20 ∧ ml ≤ 100 ∧ CR H c B ∧ B + 100000 < 10 ^ 12 ∧ Ys H ya ys ∧ ys ≠ [] ∧ ys.length ≤ 1000 ∧
  ∀ (t ca : Addr) (H' : Hp) (y : Str) (n : Nat) (cs : List (Str × List Sti)) (st : St3) (cxs : List V), H ca = none → H' t = some (.tup [.str y, .int n, .ref ca]) → H' ca = some (.lst cxs) → DpAll K H' cxs (cs.map couD) → CR H' c (B + 100000) → Bt c H H' → n ≤ most → cs.length ≤ rm → Wk ys y n (max most ml) cs st → Q (.ref t) H'
section
variable {P : Program} {w : World} {K : PySem.W.Frag} {mg : Str → Option Value} {base : Heap}
theorem ok_dwork {f fp fr fw fe : Addr} {fd fdp fdr fdw fde : FuncData} (F : Fun K "_law_drawn_work" "_law_drawn_work" sDWork f fd) (Fp : Fun K "_law_ply" "_law_ply" sPly fp fdp) (Fr : Fun K "_law_row_done" "_law_row_done" sRow fr fdr) (Fw : Fun K "_law_work_done" "_law_work_done" sWork fw fdw) (Fe : Fun K "_law_drawn_row" "_law_drawn_row" sDRow fe fde) (B : Bl mg) (gp : mg "_law_ply" = some (.ref fp)) (gr : mg "_law_row_done" = some (.ref fr)) (gw : mg "_law_work_done" = some (.ref fw)) (ge : mg "_law_drawn_row" = some (.ref fe)) (bp : Binds K fdp ["creel", "span"] []) (br : Binds K fdr ["loops_here", "fast_here", "needle_here", "course", "number"] []) (bw : Binds K fdw ["yarn", "size", "courses"] []) (be : Binds K fde ["creel", "count", "yarns", "finite"] [])
    (Gp : FnOk P w K mg base CX0 1 fp fdp ["creel", "span"] spPly) (Gr : FnOk P w K mg base CX0 1 fr fdr ["loops_here", "fast_here", "needle_here", "course", "number"] (spRow K)) (Gw : FnOk P w K mg base CX0 2 fw fdw ["yarn", "size", "courses"] (spWork K)) (Ge : FnOk P w K mg base CX0 2 fe fde ["creel", "count", "yarns", "finite"] (spDRow K)) :
    FnOk P w K mg base CX0 3 f fd ["creel", "yarns", "most", "rows_most", "most_loops"] (spDWork K) := by
  refine F.ok scDWork (fun vs H Q E h => ?_) (fun cdv A outer s H vs Q E hr h => ?_)
  · obtain ⟨c, ya, most, rm, ml, bb, ys, rfl, _⟩ := h
    rfl
  · obtain ⟨c, ya, most, rm, ml, bb, ys, rfl, m0, m1, r1, ml1, hc, hB, hy, hne, hyl, k⟩ := h
    refine ⟨_, pss_cons (ps_par3 (i := 5) (j := 6) (l := 7) rfl scDWork.nd rfl rfl rfl (by decide) (by decide) (by decide) rfl rfl rfl (pa_cons (pe_ix ix_list (pv 1) (pe_call (E := E0) Gp (hr.mono (by decide)) rfl gp Fp.kp bp .nil pass0 (pa_cons (pv 0) (pa_cons (pe_callB call_len_seq (by rfl) (B "len" (by decide)) (by decide +kernel) (pa_cons (pv 1) pa_nil)) pa_nil))) (fun _ _ => rfl)) (pa_cons (pe_op op_add pe_int (pe_call (E := E0) Gp (hr.mono (by decide)) rfl gp Fp.kp bp .nil pass0 (pa_cons (pv 0) (pa_cons (pv 2) pa_nil)))) (pa_cons (pe_lst pa_nil) pa_nil))) (by rfl))
      (pss_cons (ps_set (i := 8) scDWork.nd rfl (Or.inl rfl) (pe_call (E := E0) Gw (hr.mono (by decide)) rfl gw Fw.kp bw .nil pass0 (pa_cons (pv 5) (pa_cons (pv 6) (pa_cons (pv 7) pa_nil)))))
      (pss_cons (ps_for PassesOwn.never rfl (pi_range1 (by rfl) (B "range" (by decide)) (pa_cons (pe_call (E := E0) Gp (hr.mono (by decide)) rfl gp Fp.kp bp .nil pass0 (pa_cons (pv 0) (pa_cons (pe_op op_add (pv 3) pe_int) pa_nil))) pa_nil)) (pg_name (i := 9) scDWork.nd rfl (Or.inl rfl)) (pss_cons (ps_set (i := 10) scDWork.nd rfl (Or.inl rfl) (pe_call (E := E0) Ge (hr.mono (by decide)) rfl ge Fe.kp be .nil pass0 (pa_cons (pv 0) (pa_cons (pe_callB call_len_seq (by rfl) (B "len" (by decide)) (by decide +kernel) (pa_cons (pe_ix (ixt (K := K)) (pv 8) pe_int (fun _ _ => rfl)) pa_nil)) (pa_cons (pv 1) (pa_cons pe_bl pa_nil))))))
      (pss_cons (ps_set (i := 11) scDWork.nd rfl (Or.inl rfl) (pe_call (E := E0) Gr (hr.mono (by decide)) rfl gr Fr.kp br .nil pass0 (pa_cons (pe_ix (ixt (K := K)) (pv 8) pe_int (fun _ _ => rfl)) (pa_cons (pe_ix (ixt (K := K)) (pv 8) pe_int (fun _ _ => rfl)) (pa_cons (pe_ix (ixt (K := K)) (pv 8) pe_int (fun _ _ => rfl)) (pa_cons (pv 10) (pa_cons (pe_callB call_len_seq (by rfl) (B "len" (by decide)) (by decide +kernel) (pa_cons (pv 7) pa_nil)) pa_nil)))))))
      (pss_one (ps_if (PW.pt (pw_and (pt_cmpR op_eq (pe_callB call_len_seq (by rfl) (B "len" (by decide)) (by decide +kernel) (pa_cons (pv 11) pa_nil)) pe_int (nomark _)) (pw_and1 (pt_cmpR op_le (pe_callB call_len_seq (by rfl) (B "len" (by decide)) (by decide +kernel) (pa_cons (pe_ix (ixt (K := K)) (pv 11) pe_int (fun _ _ => rfl)) pa_nil)) (pv 4) (nomark _))))) (pss_one (ps_par (i := 7) (j := 8) rfl scDWork.nd rfl rfl (by decide) rfl rfl (pa_cons (pe_op op_cat (pv 7) (pe_lst (pa_cons (pv 10) pa_nil))) (pa_cons (pv 11) pa_nil)) (by rfl))) pss_nil)))))
      (pss_one (ps_ret (pe_tup (pa_cons (pv 5) (pa_cons (pv 6) (pa_cons (pv 7) pa_nil)))))))), ?_⟩
    have cy : ya ≠ c := by
      intro e
      subst e
      obtain ⟨_, _, _, e, _⟩ := hc
      rw [Ys, e] at hy
      cases ys with
      | nil => exact hne rfl
      | cons a r => simp at hy
    have c0 : H c ≠ none := by
      obtain ⟨_, _, _, e, _⟩ := hc
      rw [e]
      exact fun z => by cases z
    have ty2 : sizeLine = 16777216 := sizeLine_eq
    have y0 : 0 < ys.length := List.length_pos_iff.mpr hne
    refine ⟨_, rfl, _, rfl, _, rfl, ya, _, rfl, .inl (SqL.of hy), ?_⟩
    rw [List.length_map]
    refine ⟨c, _, _, rfl, by omega, by omega, hc, by omega, fun d1 H1 d10 d11 h1 b1 n1 => ?_⟩
    obtain ⟨y, hyy⟩ : ∃ y, ys[d1.toNat]? = some y := ⟨ys[d1.toNat]'(by omega), List.getElem?_eq_getElem (by omega)⟩
    have at3 : atI (ys.map V.str) d1 = some (.str y) := by
      have := atI_nat (xs := ys.map V.str) (j := d1.toNat) (v := .str y) (by rw [List.getElem?_map, hyy]; rfl)
      rwa [show ((d1.toNat : Nat) : Int) = d1 by omega] at this
    refine ⟨ya, _, _, _, rfl, rfl, SqL.of (b1 _ _ cy hy), at3, ?_⟩
    refine ⟨_, rfl, _, rfl, c, _, _, rfl, by omega, by omega, h1, by omega, fun d2 H2 d20 d21 h2 b2 n2 => ⟨_, _, rfl, rfl, by show 0 ≤ sizeLine; decide, fun ca nca => ⟨_, _, _, rfl, ?_⟩⟩⟩
    obtain ⟨n, hn⟩ : ∃ n : Nat, 1 + d2 = (n : Int) := ⟨(1 + d2).toNat, by omega⟩
    dsimp only
    rw [hn]
    have hyy' := List.mem_of_getElem? hyy
    have b12 := b1.trans b2
    have cca : c ≠ ca := h2.fresh nca
    have nH : H ca = none := by
      cases e : H ca with
      | none => rfl
      | some o => rw [b12 _ _ cca.symm e] at nca; cases nca
    have wk0 : Wk ys y n (max most ml) [] (laid y n) := Wk.start hyy' (by omega)
    refine ⟨_, rfl, _, rfl, _, rfl, y, n, ca, [], [], rfl, SqL.of upd_same, .nil, by omega, Nat.zero_le _, fun c h => absurd h List.not_mem_nil, wk0.bd (by omega), fun v H3 s3 yes no => ?_⟩
    have told := yes (laid y n) rfl
    have told0 : Told3 K H H3 v (laid y n) := by
      obtain ⟨t, L, T, D, xs, rfl, nL, nT, nD, r⟩ := told
      have old : ∀ {p : Addr}, upd H2 ca (.lst []) p = none → H p = none := fun {p} np => by
        have nc : p ≠ c := fun e => by
          subst e
          obtain ⟨_, _, _, e, _⟩ := h2
          rw [upd_ne cca, e] at np
          cases np
        cases e : H p with
        | none => rfl
        | some o => rw [same_new nca _ _ (b12 _ _ nc e)] at np; cases np
      exact ⟨t, L, T, D, xs, rfl, old nL, old nT, old nD, r⟩
    have h3 : CR H3 c (bb + 1 + 1) := (h2.upd cca.symm).same s3
    have b3 : Bt c H H3 := b12.trans ((Bt.of (same_new nca)).trans (Bt.of s3))
    refine ⟨_, rfl, _, rfl, _, _, rfl, rfl, c, _, _, rfl, by omega, by omega, h3, by omega, fun d3 H4 d30 d31 h4 b4 n4 => ⟨d3, rfl, by omega, by omega, ?_⟩⟩
    refine for_range (lo := 0) (n := d3.toNat) (fun i σ Hn => ∃ (cs : List (Str × List Sti)) (st : St3) (cxs : List V) (ca : Addr) (v : V) (o9 o10 o11 : Option V), σ = [some (.ref c), some (.ref ya), some (.int most), some (.int rm), some (.int ml), some (.str y), some (.int n), some (.ref ca), some v, o9, o10, o11] ∧ H ca = none ∧ Hn ca = some (.lst cxs) ∧ DpAll K Hn cxs (cs.map couD) ∧ Wk ys y n (max most ml) cs st ∧ cs.length ≤ i ∧ Told3 K H Hn v st ∧ CR Hn c (bb + 3 + 3000 * i) ∧ Bt c H Hn)
      ⟨[], laid y n, [], ca, v, _, _, _, rfl, nH, b4 _ _ cca.symm (s3 _ _ upd_same), .nil, wk0, Nat.zero_le _, told0.bt h3 c0 b4, h4, b3.trans b4⟩ (fun i σ H5 hi hI => ?_) (fun σ H5 hI => ?_)
    · obtain ⟨cs, st, cxs, ca, v, o9, o10, o11, rfl, nca, eca, dca, wk, cl, told, hc5, b5⟩ := hI
      have ne : ∀ {p : Addr}, H p = none → p ≠ c := fun n e => c0 (e ▸ n)
      obtain ⟨good, gl⟩ := wk.good
      have gll := good.lens
      have told' := told
      obtain ⟨t, L, T, D, xs, rfl, nL, nT, nD, et, eL, dL, eT, eD⟩ := told
      refine ⟨_, rfl, _, rfl, t, _, 2, _, rfl, rfl, SqT.of et, atI_nat (j := 2) rfl, D, _, rfl, .inl (SqL.of eD), _, rfl, ?_⟩
      rw [List.length_map]
      refine ⟨c, ya, _, _, ys, true, rfl, by omega, hc5, by omega, b5 _ _ cy hy, hne, hyl, fun co H6 yc qs dco h6 b6 hyc hqs hq => ?_⟩
      have tk6 := Tk.bt hc5 b6
      have told6 := told'.bt hc5 c0 b6
      obtain ⟨t', L, T, D, xs, et', nL, nT, nD, et, eL, dL, eT, eD⟩ := told6
      cases et'
      have eca6 := b6 _ _ (ne nca) eca
      have cl6 := dps_len dca
      rw [List.length_map] at cl6
      have dco' := dco
      cases dco with
      | @tup co _ _ sco dcs =>
        refine ⟨_, rfl, t, _, 0, _, rfl, rfl, SqT.of et, atI_nat (j := 0) rfl, _, rfl, t, _, 1, _, rfl, rfl, SqT.of et, atI_nat (j := 1) rfl, _, rfl, t, _, 2, _, rfl, rfl, SqT.of et, atI_nat (j := 2) rfl, _, rfl, _, rfl, ca, cxs, rfl, .inl (SqL.of eca6), ?_⟩
        refine ⟨L, T, D, co, _, xs, st, yc, qs, rfl, SqL.of eL, dL, SqL.of eT, SqL.of eD, dco', by omega, by omega, by omega, by omega, hq, fun v H7 s7 yes no => ?_⟩
        have stay : Told3 K H H7 (.ref t) st := Told3.same ⟨t, L, T, D, xs, rfl, nL, nT, nD, et, eL, dL, eT, eD⟩ s7
        have eca7 := s7 _ _ eca6
        have dca7 := dps_same s7 (cous_tk tk6 dca)
        have h7 : CR H7 c (bb + 3 + 3000 * (i + 1)) := (h6.same s7).mono (by omega)
        have b7 : Bt c H H7 := b5.trans (b6.trans (Bt.of s7))
        cases hr2 : rowD yc qs st with
        | none =>
          obtain ⟨t2, a2, b2, rfl, e2⟩ := no hr2
          exact ⟨_, rfl, t2, _, rfl, .inr (SqT.of e2), rfl, _, rfl, LK.ifF rfl (LK.ifF rfl ⟨cs, st, cxs, ca, _, _, _, _, rfl, nca, eca7, dca7, wk, by omega, stay, h7, b7⟩)⟩
        | some st2 =>
          have told2 := yes st2 hr2
          have told2' := told2
          obtain ⟨t2, L2, T2, D2, xs2, rfl, nL2, nT2, nD2, et2, eL2, dL2, r2⟩ := told2
          have xl2 := dps_len dL2
          rw [List.length_map] at xl2
          refine ⟨_, rfl, t2, _, rfl, .inr (SqT.of et2), rfl, _, rfl, LK.ifT rfl ⟨_, rfl, t2, _, 0, _, rfl, rfl, SqT.of et2, atI_nat (j := 0) rfl, L2, _, rfl, .inl (SqL.of eL2), _, rfl, _, _, rfl, rfl, _, rfl, ?_⟩⟩
          by_cases le : (xs2.length : Int) ≤ ml
          · refine LK.ifT (decide_eq_true le) ⟨_, rfl, _, rfl, by show 1 ≤ sizeLine; decide, fun p np => ?_⟩
            have s8 := same_new (o := .lst [.ref co]) np
            refine ⟨ca, p, cxs, _, rfl, rfl, s8 _ _ eca7, upd_same, ?_, fun p2 np2 => ⟨_, rfl, _, _, rfl, ?_⟩⟩
            · simp only [List.length_cons, List.length_nil]
              omega
            have s9 := s8.trans (same_new (o := .lst (cxs ++ [.ref co])) np2)
            have np2' : H p2 = none := by
              cases e : H p2 with
              | none => rfl
              | some o =>
                by_cases pc : p2 = c
                · subst pc
                  obtain ⟨_, _, _, e, _⟩ := h7
                  rw [s8 _ _ e] at np2
                  cases np2
                · rw [s8 _ _ (b7 _ _ pc e)] at np2
                  cases np2
            have old : ∀ {q : Addr}, H6 q = none → H q = none := fun {q} nq => by
              cases e : H q with
              | none => rfl
              | some o =>
                by_cases pc : q = c
                · subst pc
                  obtain ⟨_, _, _, e, _⟩ := h6
                  rw [e] at nq
                  cases nq
                · rw [b6 _ _ pc (b5 _ _ pc e)] at nq
                  cases nq
            refine ⟨cs ++ [(yc, qs)], st2, cxs ++ [.ref co], p2, _, _, _, _, rfl, np2', upd_same, ?_, wk.more hyc hqs hq hr2 (by omega), ?_, ?_, h7.same s9, b7.trans (Bt.of s9)⟩
            · rw [List.map_append]
              exact dps_app (dps_same s9 dca7) (.cons (dp_same (s7.trans s9) dco') .nil)
            · rw [List.length_append, List.length_singleton]
              omega
            · exact Told3.same ⟨t2, L2, T2, D2, xs2, rfl, old nL2, old nT2, old nD2, et2, eL2, dL2, r2⟩ s9
          · refine LK.ifF (decide_eq_false le) ?_
            exact ⟨cs, st, cxs, ca, _, _, _, _, rfl, nca, eca7, dca7, wk, by omega, stay, h7, b7⟩
    · obtain ⟨cs, st, cxs, ca, v, o9, o10, o11, rfl, nca, eca, dca, wk, cl, told, hc5, b5⟩ := hI
      refine ⟨_, rfl, _, rfl, _, rfl, by show 3 ≤ sizeLine; decide, fun t nt => ?_⟩
      have s := same_new (o := .tup [.str y, .int n, .ref ca]) nt
      exact k t ca _ y n cs st cxs nca upd_same (s _ _ eca) (dps_same s dca) ((hc5.same s).mono (by omega)) (b5.trans (Bt.of s)) (by omega) (by omega) wk
end
end X6
/-! _law_scene: a cloth that is drawn, or worked. -/
namespace X6
open PySem PySem.Spec PyProof.Rows L2 LK MXo
theorem gone_bt {H H1 : Hp} {c q : Addr} {B : Nat} (hc : CR H1 c B) (b : Bt c H H1) (n : H1 q = none) : H q = none := by
  cases e : H q with
  | none => rfl
  | some o =>
    by_cases pc : q = c
    · subst pc
      obtain ⟨_, _, _, e, _⟩ := hc
      rw [e] at n
      cases n
    · rw [b _ _ pc e] at n
      cases n
/-- what is told of a scene -/
structure Scn (K : PySem.W.Frag) (H H' : Hp) (t L G : Addr) (m : Nat) (ys : List Str) (ls : List Lp) (xs : List V) (fs : List Int) : Prop where
  nL : H L = none
  nG : H G = none
  LG : L ≠ G
  et : H' t = some (.tup [.ref L, .ref G])
  eL : H' L = some (.lst xs)
  dL : DpAll K H' xs (ls.map lpD)
  eG : H' G = some (.lst (fs.map V.int))
  ln : ls.length ≤ m
  ok : OkLs ys ls
  fs : OkFs ls.length fs
  yn : ∀ y ∈ ys, Yn y
def spScene (K : PySem.W.Frag) : Sp := fun vs H Q _ => ∃ (c : Addr) (most B : Nat), vs = [.ref c, .int most] ∧ most ≤ 100 ∧ CR H c B ∧ B + 200000 < 10 ^ 12 ∧
  ∀ (t L G : Addr) (H' : Hp) (ys : List Str) (ls : List Lp) (xs : List V) (fs : List Int), Scn K H H' t L G (max 4 most) ys ls xs fs → CR H' c (B + 200000) → Bt c H H' → Q (.ref t) H'
section
variable {P : Program} {w : World} {K : PySem.W.Frag} {mg : Str → Option Value} {base : Heap}
end
end X6
/-! What stands behind cuts, as a function of data; _law_upright, _law_fallen. -/
namespace X6
open PySem PySem.Spec PyProof.Rows L2 LK MXo
def parOf (ls : List Lp) (j : Nat) : List Int := match ls[j]? with
  | some l => l.2
  | none => []
def upB (ls : List Lp) (fs cuts : List Int) (f : List Nat) (k : Nat) : Bool := decide ((k : Int) ∉ cuts) && (decide ((k : Int) ∈ fs) || f.any fun j => decide ((k : Int) ∈ parOf ls j))
/-- what stands of the last m loops, from the last one down -/
def upL (ls : List Lp) (fs cuts : List Int) : Nat → List Nat
  | 0 => []
  | m + 1 => if upB ls fs cuts (upL ls fs cuts m) (ls.length - 1 - m) = true then upL ls fs cuts m ++ [ls.length - 1 - m] else upL ls fs cuts m
def fallD (ls : List Lp) (fs cuts : List Int) : List Nat := (List.range ls.length).filter fun k => decide (k ∉ upL ls fs cuts ls.length)
theorem upL_len (ls : List Lp) (fs cuts : List Int) : ∀ m, (upL ls fs cuts m).length ≤ m
  | 0 => Nat.le_refl _
  | m + 1 => by
    have := upL_len ls fs cuts m
    unfold upL
    split
    · rw [List.length_append, List.length_singleton]
      omega
    · omega
theorem upL_lt {ls : List Lp} {fs cuts : List Int} : ∀ {m k : Nat}, m ≤ ls.length → k ∈ upL ls fs cuts m → k < ls.length
  | 0, k, _, h => absurd h List.not_mem_nil
  | m + 1, k, l, h => by
    unfold upL at h
    split at h
    · rcases List.mem_append.mp h with h | h
      · exact upL_lt (by omega) h
      · rw [List.mem_singleton.mp h]
        omega
    · exact upL_lt (by omega) h
theorem upL_cut {ls : List Lp} {fs cuts : List Int} : ∀ {m k : Nat}, k ∈ upL ls fs cuts m → (k : Int) ∉ cuts
  | 0, k, h => absurd h List.not_mem_nil
  | m + 1, k, h => by
    unfold upL at h
    split at h
    · rename_i b
      rcases List.mem_append.mp h with h | h
      · exact upL_cut h
      · rw [List.mem_singleton.mp h]
        unfold upB at b
        rw [Bool.and_eq_true] at b
        exact of_decide_eq_true b.1
    · exact upL_cut h
theorem upL_sub {ls : List Lp} {fs cuts : List Int} {m k : Nat} (h : k ∈ upL ls fs cuts m) : ∀ d, k ∈ upL ls fs cuts (m + d)
  | 0 => h
  | d + 1 => by
    have := upL_sub h d
    show k ∈ upL ls fs cuts (m + d + 1)
    unfold upL
    split
    · exact List.mem_append_left _ this
    · exact this
theorem upL_mono {ls : List Lp} {fs c1 c2 : List Int} {n : Nat} (h : ∀ k ∈ upL ls fs c1 n, (k : Int) ∉ c2) : ∀ {m k : Nat}, m ≤ n → k ∈ upL ls fs c1 m → k ∈ upL ls fs c2 m
  | 0, k, _, hk => absurd hk List.not_mem_nil
  | m + 1, k, l, hk => by
    have all := hk
    unfold upL at hk
    split at hk
    · rename_i b
      rcases List.mem_append.mp hk with hk | hk
      · exact upL_sub (upL_mono h (by omega) hk) 1
      · have e := List.mem_singleton.mp hk
        subst e
        have nc := h _ (by
          have := upL_sub all (n - (m + 1))
          rwa [show m + 1 + (n - (m + 1)) = n by omega] at this)
        have b2 : upB ls fs c2 (upL ls fs c2 m) (ls.length - 1 - m) = true := by
          unfold upB at b ⊢
          rw [Bool.and_eq_true, Bool.or_eq_true] at b ⊢
          refine ⟨decide_eq_true nc, b.2.imp id fun q => ?_⟩
          obtain ⟨j, hj, hp⟩ := List.any_eq_true.mp q
          exact List.any_eq_true.mpr ⟨j, upL_mono h (by omega) hj, hp⟩
        unfold upL
        rw [if_pos b2]
        exact List.mem_append_right _ (List.mem_singleton.mpr rfl)
    · exact upL_sub (upL_mono h (by omega) hk) 1
theorem upL_cong {ls : List Lp} {fs c1 c2 : List Int} (h : ∀ k : Nat, k < ls.length → ((k : Int) ∈ c1 ↔ (k : Int) ∈ c2)) : ∀ {m : Nat}, m ≤ ls.length → upL ls fs c1 m = upL ls fs c2 m
  | 0, _ => rfl
  | m + 1, l => by
    have ih := upL_cong (fs := fs) h (m := m) (by omega)
    unfold upL
    have e : upB ls fs c1 (upL ls fs c1 m) (ls.length - 1 - m) = upB ls fs c2 (upL ls fs c2 m) (ls.length - 1 - m) := by
      rw [ih]
      unfold upB
      have := h (ls.length - 1 - m) (by omega)
      simp only [this]
    rw [e, ih]
theorem fall_mem {ls : List Lp} {fs cuts : List Int} {k : Nat} : k ∈ fallD ls fs cuts ↔ k < ls.length ∧ k ∉ upL ls fs cuts ls.length := by
  unfold fallD
  rw [List.mem_filter, List.mem_range, decide_eq_true_eq]
theorem fall_cut {ls : List Lp} {fs cuts : List Int} {k : Nat} (h : k < ls.length) (c : (k : Int) ∈ cuts) : k ∈ fallD ls fs cuts :=
  fall_mem.mpr ⟨h, fun u => upL_cut u c⟩
/-- the least of all that have run -/
theorem fall_least {ls : List Lp} {fs c1 c2 : List Int} (h : ∀ k : Nat, k < ls.length → (k : Int) ∈ c2 → k ∈ fallD ls fs c1) : ∀ k ∈ fallD ls fs c2, k ∈ fallD ls fs c1 := fun k hk => by
  obtain ⟨a, b⟩ := fall_mem.mp hk
  refine fall_mem.mpr ⟨a, fun u => b (upL_mono (n := ls.length) (fun j hj hc => ?_) (Nat.le_refl _) u)⟩
  exact (fall_mem.mp (h j (upL_lt (Nat.le_refl _) hj) hc)).2 hj
theorem fall_cong {ls : List Lp} {fs c1 c2 : List Int} (h : ∀ k : Nat, k < ls.length → ((k : Int) ∈ c1 ↔ (k : Int) ∈ c2)) : fallD ls fs c1 = fallD ls fs c2 := by
  unfold fallD
  rw [upL_cong h (Nat.le_refl _)]
abbrev nI (ks : List Nat) : List V := ks.map fun k : Nat => V.int (k : Int)
theorem nI_ints (ks : List Nat) : nI ks = (ks.map fun k : Nat => (k : Int)).map V.int := by
  unfold nI
  rw [List.map_map]
  rfl
theorem flat_nI (ks : List Nat) : (nI ks).all flatV = true := by
  rw [nI_ints]
  exact flat_ints _
theorem inV_nI (i : Nat) (ks : List Nat) : inV (.int (i : Int)) (nI ks) = decide (i ∈ ks) := by
  rw [nI_ints, inV_int]
  congr 1
  rw [List.mem_map]
  exact propext ⟨fun ⟨k, hk, e⟩ => by rwa [show i = k by omega], fun h => ⟨i, h, rfl⟩⟩
def spUpr (K : PySem.W.Frag) : Sp := fun vs H Q _ => ∃ (la fa ca : Addr) (xs : List V) (ls : List Lp) (fs cuts : List Int), vs = [.ref la, .ref fa, .ref ca] ∧ SqL K H la xs ∧ DpAll K H xs (ls.map lpD) ∧ SqL K H fa (fs.map V.int) ∧ SqL K H ca (cuts.map V.int) ∧ ls.length ≤ 10000 ∧
  ∀ (p : Addr) (H' : Hp), H p = none → Same H H' → H' p = some (.lst (nI (upL ls fs cuts ls.length).reverse)) → Q (.ref p) H'
def spFal (K : PySem.W.Frag) : Sp := fun vs H Q _ => ∃ (la fa ca : Addr) (xs : List V) (ls : List Lp) (fs cuts : List Int), vs = [.ref la, .ref fa, .ref ca] ∧ SqL K H la xs ∧ DpAll K H xs (ls.map lpD) ∧ SqL K H fa (fs.map V.int) ∧ SqL K H ca (cuts.map V.int) ∧ ls.length ≤ 10000 ∧
  ∀ (p : Addr) (H' : Hp), H p = none → Same H H' → H' p = some (.lst (nI (fallD ls fs cuts))) → Q (.ref p) H'
section
variable {P : Program} {w : World} {K : PySem.W.Frag} {mg : Str → Option Value} {base : Heap}
end
end X6
/-! _law_fallen, _law_some_of. -/
namespace X6
open PySem PySem.Spec PyProof.Rows L2 LK MXo
/-- a list of one's own, of numbers below n, unlike -/
def spSome (K : PySem.W.Frag) : Sp := fun vs H Q _ => ∃ (c : Addr) (n most B : Nat), vs = [.ref c, .int n, .int most] ∧ n ≤ 100000 ∧ most ≤ 1000 ∧ CR H c B ∧ B + 2000 < 10 ^ 12 ∧
  ∀ (p : Addr) (H' : Hp) (ns : List Int), H p = none → CR H' c (B + 2000) → Bt c H H' → H' p = some (.lst (ns.map V.int)) → ns.length ≤ most → OkFs n ns → Q (.ref p) H'
section
variable {P : Program} {w : World} {K : PySem.W.Frag} {mg : Str → Option Value} {base : Heap}
end
end X6
/-! Small facts. -/
namespace X6
open PySem PySem.Spec PyProof.Rows L2 LK
theorem OkFs.filt {n : Nat} {ns : List Int} {f : Int → Bool} (h : OkFs n ns) : OkFs n (ns.filter f) := ⟨h.1.filter f, fun x hx => h.2 x (List.mem_filter.mp hx).1⟩
theorem OkFs.take {n : Nat} {ns : List Int} (k : Nat) (h : OkFs n ns) : OkFs n (ns.take k) := ⟨h.1.sublist (List.take_sublist k ns), fun x hx => h.2 x (List.mem_of_mem_take hx)⟩
theorem OkFs.nil {n : Nat} : OkFs n [] := ⟨List.nodup_nil, fun x h => absurd h List.not_mem_nil⟩
theorem OkFs.len {n : Nat} {ns : List Int} (h : OkFs n ns) : ns.length ≤ n := ints_len h.1 h.2
theorem inV_nI' (i : Int) (ks : List Nat) : inV (.int i) (nI ks) = decide (i ∈ ks.map fun k : Nat => (k : Int)) := by
  rw [nI_ints, inV_int]
theorem cr_ne {H : Hp} {c p : Addr} {B : Nat} (h : CR H c B) (n : H p = none) : p ≠ c := fun e => by
  subst e
  obtain ⟨_, _, _, e, _⟩ := h
  rw [e] at n
  cases n
theorem pi_listK {X : Cx} {K : PySem.W.Frag} {tg l : Expr} {tl : TE} (hl : PE X l tl) (e : X.K = K := by rfl) : PI X tg l (iList K tl) := e ▸ pi_list hl
theorem nI_nil (ns : List Int) : (ns.map V.int).isEmpty = ns.isEmpty := List.isEmpty_map
theorem memI {k : Nat} {r : List Nat} : ((k : Int) ∈ r.map fun k : Nat => (k : Int)) ↔ k ∈ r := by
  rw [List.mem_map]
  exact ⟨fun ⟨z, hz, e⟩ => by rwa [show k = z by omega], fun h => ⟨k, h, rfl⟩⟩
theorem upL_ms {ls : List Lp} {fs ms cuts : List Int} (h : ∀ x, x ∈ ms ↔ x ∈ fs) : ∀ m, upL ls ms cuts m = upL ls fs cuts m
  | 0 => rfl
  | m + 1 => by
    unfold upL
    rw [upL_ms h m]
    have : upB ls ms cuts (upL ls fs cuts m) (ls.length - 1 - m) = upB ls fs cuts (upL ls fs cuts m) (ls.length - 1 - m) := by
      unfold upB
      simp only [h]
    rw [this]
theorem fall_ms {ls : List Lp} {fs ms cuts : List Int} (h : ∀ x, x ∈ ms ↔ x ∈ fs) : fallD ls ms cuts = fallD ls fs cuts := by
  unfold fallD
  rw [upL_ms h]
end X6
namespace X6
open PySem PySem.Spec PyProof.Rows L2 LK
abbrev sPl : Stmt := inClass (top 18) 1
abbrev sPf : Stmt := inClass (top 18) 2
abbrev sLn : Stmt := inClass (top 18) 9
/-- a new list with the field's items -/
def spCopy (K : PySem.W.Frag) (C : Addr) (fl : Str) : Sp := fun vs H Q _ => ∃ (x dx L : Addr) (fs : List (Str × V)) (xs : List V), vs = [.ref x] ∧ H x = some (.ins C dx fs) ∧ Cls K C ∧ NoAttr K C fl ∧ fs.lookup fl = some (.ref L) ∧ H L = some (.lst xs) ∧ ∀ p, H p = none → Q (.ref p) (upd H p (.lst xs))
def spSize (K : PySem.W.Frag) (C : Addr) : Sp := fun vs H Q _ => ∃ (x dx L : Addr) (fs : List (Str × V)) (xs : List V), vs = [.ref x] ∧ H x = some (.ins C dx fs) ∧ Cls K C ∧ NoAttr K C "_loops" ∧ fs.lookup ("_loops" : Str) = some (.ref L) ∧ H L = some (.lst xs) ∧ Q (.int (xs.length : Nat)) H
section
variable {P : Program} {w : World} {K : PySem.W.Frag} {mg : Str → Option Value} {base : Heap} {C : Addr}
theorem scPl : FnScope ["self"] ["self"] (defScope sPl) := ⟨rfl, rfl, rfl, by decide +kernel, rfl, by decide +kernel, by decide +kernel⟩
theorem scPf : FnScope ["self"] ["self"] (defScope sPf) := ⟨rfl, rfl, rfl, by decide +kernel, rfl, by decide +kernel, by decide +kernel⟩
theorem scLn : FnScope ["self"] ["self"] (defScope sLn) := ⟨rfl, rfl, rfl, by decide +kernel, rfl, by decide +kernel, by decide +kernel⟩
theorem ok_Pl {f : Addr} {fd : FuncData} (F : Fun K "loops" "Cloth.loops" sPl f fd) (B : Bl mg) : FnOk P w K mg base CX0 1 f fd ["self"] (spCopy K C "_loops") := by
  refine F.ok scPl (fun vs H Q E h => ?_) (fun cdv A outer s H vs Q E hr h => ?_)
  · obtain ⟨x, dx, L, fs, xs, rfl, _⟩ := h
    rfl
  · obtain ⟨x, dx, L, fs, xs, rfl, hx, c, n, lk, hL, k⟩ := h
    refine ⟨_, pss_one (ps_ret (pe_callTy call_list_of (by rfl) (B "list" (by decide)) (by decide +kernel) (pa_cons (pe_fld (pv 0) rfl) pa_nil))), ?_⟩
    exact ⟨_, rfl, x, C, dx, fs, _, rfl, hx, c, n, lk, L, xs, rfl, .inl (SqL.of hL), k⟩
theorem ok_Pf {f : Addr} {fd : FuncData} (F : Fun K "fast" "Cloth.fast" sPf f fd) (B : Bl mg) : FnOk P w K mg base CX0 1 f fd ["self"] (spCopy K C "_fast") := by
  refine F.ok scPf (fun vs H Q E h => ?_) (fun cdv A outer s H vs Q E hr h => ?_)
  · obtain ⟨x, dx, L, fs, xs, rfl, _⟩ := h
    rfl
  · obtain ⟨x, dx, L, fs, xs, rfl, hx, c, n, lk, hL, k⟩ := h
    refine ⟨_, pss_one (ps_ret (pe_callTy call_list_of (by rfl) (B "list" (by decide)) (by decide +kernel) (pa_cons (pe_fld (pv 0) rfl) pa_nil))), ?_⟩
    exact ⟨_, rfl, x, C, dx, fs, _, rfl, hx, c, n, lk, L, xs, rfl, .inl (SqL.of hL), k⟩
theorem ok_Ln {f : Addr} {fd : FuncData} (F : Fun K "__len__" "Cloth.__len__" sLn f fd) (B : Bl mg) : FnOk P w K mg base CX0 1 f fd ["self"] (spSize K C) := by
  refine F.ok scLn (fun vs H Q E h => ?_) (fun cdv A outer s H vs Q E hr h => ?_)
  · obtain ⟨x, dx, L, fs, xs, rfl, _⟩ := h
    rfl
  · obtain ⟨x, dx, L, fs, xs, rfl, hx, c, n, lk, hL, k⟩ := h
    refine ⟨_, pss_one (ps_ret (pe_callB call_len_seq (by rfl) (B "len" (by decide)) (by decide +kernel) (pa_cons (pe_fld (pv 0) rfl) pa_nil))), ?_⟩
    exact ⟨_, rfl, x, C, dx, fs, _, rfl, hx, c, n, lk, L, xs, rfl, .inl (SqL.of hL), k⟩
end
end X6
/-! try: .. with several clauses `except C as n`, one name for all of them. -/
namespace L2N
open PySem PySem.Spec PyProof.Rows L2
/-- a clause: its class, its suite's reading by the error's address, class and dict -/
abbrev Cls1 := Value × (Addr → Value → Option Addr → TS)
def fall (i : Nat) (D : Ends) : Ends := ⟨fun τ G => D.nx (τ.set i none) G, D.rt, fun τ G => D.bk (τ.set i none) G, fun τ G => D.ct (τ.set i none) G⟩
def wL (K : PySem.W.Frag) (i : Nat) (out : WX) (D : Ends) : List Cls1 → WX
  | [] => out
  | p :: rest => fun k d σ H => ∃ hit, PySem.W.exmOne K k p.1 = some hit ∧
    (hit = true → ∀ e, H e = none → p.2 e k d (fall i D) (σ.set i (some (.ref e))) H) ∧ (hit = false → wL K i out D rest k d σ H)
inductive AsL (X : Cx) (n : Str) : List ExceptHandler → List Cls1 → Prop
  | nil : AsL X n [] []
  | cons {y : Str} {p : Cls1} {st : Stmt} {more : List Stmt} {q1 q2 : Pos} {tail : List ExceptHandler} {rest : List Cls1} (named : Names X y p.1)
      (suite : ∀ (e : Addr) (o : Obj) (k : Value) (d : Option Addr) (held : List (Addr × Obj)), Zn k d o → (∃ fs, o.data = .fields fs) → PSs (X.suite e ((e, o) :: held)) (st :: more) (p.2 e k d)) (more_ : AsL X n tail rest) :
      AsL X n (.ExceptHandler (some (.Name y q1)) (some n) (st :: more) q2 :: tail) (p :: rest)
section
variable {X : Cx} {n : Str} {i : Nat} {body : List Stmt} {c1 : ExceptHandler} {cs : List ExceptHandler} {l : List Cls1} {pos : Pos} {tb : WX → TS} {out : WX}
theorem ps_try_asL (top : X.stack = X.env :: X.outer) (own : X.env.frame = some X.env.locals) (nd : X.N.Nodup) (at_ : X.N[i]? = some n) (lc : X.env.kindOf n = some .local) (tk : Takes X out)
    (hb : ∀ (W : WX) (held : List (Addr × Obj)) (xe : Value → Shared → Prop), Takes (X.tr held xe) W → PassesOwn (model X.prog X.w) X.A X.env xe → PSs (X.tr held xe) body (tb W))
    (clauses : AsL X n (c1 :: cs) l) : PS X (.Try body (c1 :: cs) [] [] pos) (fun D σ H => tb (wL X.K i out D l) D σ H) := by
  constructor
  intro pins s σ H D I want
  have sound := I.ok
  have frames : X.A.frames = some (X.env :: X.outer) := by
    rw [sound.frames, top]
  have place : Loc X.env.scope n := .inl lc
  apply wpAny_Try_except
  refine wpAny_mono ((hb (wL X.K i out D l) (X.pn ++ pins) _ (fun err s' flying => ?_) PassesOwn.looking).run [] s σ H D (I.toTry _) want) (fun flow s1 done => ?_) (fun _ _ z => z)
  case refine_1 =>
    rcases flying with ⟨e, B, sI, pins2, τ, G, k, d, rfl, J2, nb, up, sky, ne, os, bare, wish⟩
    have J : Inv X pins τ G sI := J2.ofTry sound
    rw [top] at sky
    show wpAny (model X.prog X.w) X.A (noteFrame (.ref e) X.env) _ _ _
    refine Sky.land Zn.steady frames own sky fun g3 landed up3 => ?_
    have J3 : Inv X pins τ G { s' with heap := g3 } := J.landed nb landed.1 (up.trans up3) os bare
    rcases landed.there with ⟨o3, f3, here3, z3, data3⟩
    have apart : e ∉ frs (X.env :: X.outer) := fun inn => by
      rcases landed.2.2.1.mem inn with ⟨_, o', here', no⟩
      rw [here3] at here'
      cases here'
      exact no _ data3
    have notL : e ≠ X.env.locals := fun z => apart (List.mem_filterMap.mpr ⟨X.env, List.mem_cons_self, by rw [own, z]⟩)
    have notF : e ∉ X.fs := fun inn => by
      rcases List.mem_filterMap.mp inn with ⟨v, hv, q⟩
      exact apart (List.mem_filterMap.mpr ⟨v, List.mem_cons_of_mem _ hv, q⟩)
    have suite3 := J3.suite here3 data3 ne notL notF
    have walk : ∀ {hs : List ExceptHandler} {m : List Cls1}, AsL X n hs m → wL X.K i out D m k d τ G → wpAny (model X.prog X.w) X.A (handleBy (.ref e) X.env hs) (SP X pins D) X.xe { s' with heap := g3 } := by
      intro hs m ok
      induction ok with
      | nil =>
        intro leaves
        apply wpAny_handleBy_nil
        rcases id landed with ⟨_, _, _, oe, fs, T, oT, _, here, _, data, one, _⟩
        unfold PySem.passOn
        refine wpAny_bind (wpAny_field here data one ?_)
        rw [if_neg (show ¬ ((Value.ref T == Value.none) = true) from by simp)]
        have off : wpAny (model X.prog X.w) X.A (setFlight (.ref e) X.env.frame) (fun _ s4 => wpAny (model X.prog X.w) X.A (throw (.ref e) : Sem Flow) (SP X pins D) X.xe s4) X.xe { s' with heap := g3 } := by
          rw [own]
          refine HandSPX.setFlight_upZ landed fun g4 hop up4 => wpAny_throw (tk _ _ ?_)
          exact ⟨e, B, sI, pins, τ, G, k, d, rfl, J, nb, (up.trans up3).trans up4, .inr (.inr (by rw [top]; exact hop)), ne, os, bare, leaves⟩
        first
          | exact wpAny_bind (wpAny_pure (wpAny_bind off))
          | exact wpAny_bind off
      | @cons y p st more q1 q2 tail rest named suite r ih =>
        rintro ⟨hit, known, yes, no⟩
        refine wpAny_handleBy_cons (codeAny_handlers_test ?_) (by intro q; cases q)
        have looks : PySem.W.Looks (model X.prog X.w) g3 (typeOf (.ref e)) k := fun _ _ _ _ keep q => wpAny_typeOf_ref (keep _ _ here3) (by rw [z3.1]; exact q)
        have met := PySem.W.exm_one (M := model X.prog X.w) (J3.kIn) looks known
        have read : ∀ {Q E : Value → Shared → Prop}, Q p.1 { s' with heap := g3 } → wpAny (model X.prog X.w) (X.A.mark (some (.ref e))) (eval (.Name y q1) X.env) Q E { s' with heap := g3 } := fun {Q E} q => by
          rcases named with ⟨gl, nodbg, own' | ⟨none', blt, nn⟩⟩
          · exact ld_glob (X := X.suite e ((e, o3) :: (X.pn ++ pins))) suite3 gl own' q nodbg
          · exact ld_blt (X := X.suite e ((e, o3) :: (X.pn ++ pins))) suite3 gl none' blt q nn nodbg
        apply read
        apply met.here
        cases hit with
        | false => exact ih (no rfl)
        | true =>
          apply codeAny_handlers_suite_as
          refine HandSPX.lands_againZ landed fun g4 landed4 up4 => ?_
          have J4 : Inv X pins τ G { s' with heap := g4 } := J.landed nb landed4.1 ((up.trans up3).trans up4) os bare
          rcases landed4.there with ⟨o4, f4, here4, z4, data4⟩
          have suite4 := J4.suite here4 data4 ne notL notF
          refine store_ok (X := X.suite e ((e, o4) :: (X.pn ++ pins))) (v := .ref e) suite4 nd at_ place rfl (fun s5 I5 => ?_) (.inr lc)
          refine wpAny_mono ((suite e o4 k d (X.pn ++ pins) z4 ⟨_, data4⟩).run [] s5 _ G _ I5 (yes rfl e ne)) (fun flow s6 done => ?_) (fun _ _ z => z.elim)
          cases flow with
          | ret u =>
            rcases done with ⟨v, τ6, G6, I6, rel, q6⟩
            exact gone_ok (I6.unsuite sound) nd at_ lc fun s7 I7 => ⟨_, _, _, I7, rel, q6⟩
          | next =>
            rcases done with ⟨τ6, G6, I6, q6⟩
            exact gone_ok (I6.unsuite sound) nd at_ lc fun s7 I7 => ⟨_, _, I7, q6⟩
          | brk =>
            rcases done with ⟨τ6, G6, I6, q6⟩
            exact gone_ok (I6.unsuite sound) nd at_ lc fun s7 I7 => ⟨_, _, I7, q6⟩
          | cont =>
            rcases done with ⟨τ6, G6, I6, q6⟩
            exact gone_ok (I6.unsuite sound) nd at_ lc fun s7 I7 => ⟨_, _, I7, q6⟩
    exact walk clauses wish
  case refine_2 =>
    cases flow with
    | ret u =>
      rcases done with ⟨v, τ, G, J, rel, q⟩
      exact ⟨v, τ, G, J.ofTry sound, rel, q⟩
    | next =>
      rcases done with ⟨τ, G, J, q⟩
      exact wpAny_execs_nil ⟨τ, G, J.ofTry sound, q⟩
    | brk =>
      rcases done with ⟨τ, G, J, q⟩
      exact ⟨τ, G, J.ofTry sound, q⟩
    | cont =>
      rcases done with ⟨τ, G, J, q⟩
      exact ⟨τ, G, J.ofTry sound, q⟩
end
end L2N
/-! len(o), o of an own class with its own __len__. -/
namespace MXi
open PySem PySem.Spec PyProof.Rows L2
/-- the class has g as its __len__ -/
structure LenOf (K : PySem.W.Frag) (C g : Addr) : Prop where
  own : PySem.W.findIn K (.ref C) "__len__" = some (some (.ref g))
  isF : PySem.W.isFn K (.ref g) = true
def rLenO (C : Addr) (sp : Sp) (E : XK) : List V → Hp → VK → Prop := fun xs H Q => ∃ (a dx : Addr) (fs : List (Str × V)), xs = [.ref a] ∧ H a = some (.ins C dx fs) ∧
  sp [.ref a] H (fun v H' => ∃ n : Int, v = .int n ∧ 0 ≤ n ∧ n < 2 ^ 63 ∧ Q (.int n) H') E
section
variable {X : Cx} {CX : CXT} {k : Nat} {C g : Addr} {fd : FuncData} {ps : List Str} {sp : Sp} {E : XK}
theorem call_lenO (L : LenOf X.K C g) (F : FnOk X.prog X.w X.K X.mg X.base CX k g fd ps sp) (room : Room (k + 1) X.A) (hb : Binds X.K fd ps []) (hx : Passes CX X E) : CallR X (.builtin "len") (rLenO C sp E) := by
  intro pins s σ H xs us Q I rel want
  rcases want with ⟨a, dx, fs, rfl, here, want⟩
  obtain ⟨u, rfl, ru⟩ := vals1 rel
  obtain rfl : u = Value.ref a := ru
  rcases ins_get I.hok here with ⟨mA, O, _, _, _, _⟩
  rcases O.look with ⟨od, J, _⟩
  rcases I.fr with ⟨m, fr⟩
  have many : ([Value.ref a] ++ []).length = ps.length := F.len _ _ _ _ want
  refine PySem.W.len_K fr I.ok.mod.kin J L.own L.isF (wpAny_call ?_)
  refine codeAny_mono (F.run X.A.in1 X.stack s H ⟨[.ref a], []⟩ [.ref a] [.ref a] _ E room.in1 I.env0.in1 (hb s [.ref a] I.kIn many) (.cons rfl .nil) want) fun r s' back => ?_
  cases r with
  | error er => exact hx pins σ H s er s' I back
  | ok fl =>
    cases fl with
    | ret v =>
      obtain ⟨y, G, I3, ry, n, rfl, n0, n1, q⟩ := I.after back
      obtain ⟨t, rfl⟩ := ry
      exact ⟨⟨n0, n1⟩, .int n, G, I3.tok _, ⟨_, rfl⟩, q⟩
    | next => exact False.elim back
    | brk => exact False.elim back
    | cont => exact False.elim back
end
end MXi
/-! C(k = v, ..) of an own class whose __init__ may raise: the wish at the caller's slots. isinstance(e, (A, B)), e the error that is handled. -/
namespace MXj
open PySem PySem.Spec PyProof.Rows L2 MXe
abbrev St := L2.St
def tMakeKS (C : Addr) (m : Nat) (sp : Sp) (gV : List V → List V → List V) (E : St → XK) (tk : TA) : TE := fun σ H Q => tk σ H fun zs H2 => zs.length = m ∧ ∀ x dx, H2 x = none → H2 dx = none → dx ≠ x →
  sp (gV [.ref x] zs) (upd (upd H2 dx (.own x)) x (.ins C dx [])) (fun v H3 => v = .non ∧ Q (.ref x) H3) (E σ)
section
variable {X : Cx} {CX : CXT} {k : Nat} {f C : Addr} {fd : FuncData} {ps ks : List Str} {sp : Sp} {E : St → XK} {x : Str} {p pos : Pos} {kws : List Keyword} {tk : TA} {g : List Value → List Value → List Value} {gV : List V → List V → List V}
theorem pe_makeKS (M : Mk X.K C f) (F : FnOk X.prog X.w X.K X.mg X.base CX k f fd ps sp) (hr : Room (k + 1) X.A) (hg : Gl X x) (hm : X.mg x = some (.ref C)) (hb : KBn X.K fd ps 1 ks g gV) (hx : ∀ σ, PassesAt CX X σ (E σ)) (hkw : PK X kws tk)
    (hall : (backToKw pos (keywordEach kws X.env)).all (·.1.isSome) = true := by rfl) (hks : (backToKw pos (keywordEach kws X.env)).filterMap (·.1) = ks := by rfl) (hdb : (x == ("__debug__" : Str)) = false := by decide)
    (hpl : ((backTo pos (starEach [] X.env)).any (·.1) || (backToKw pos (keywordEach kws X.env)).any (·.1.isNone)) = false := by rfl) :
    PE X (.Call (.Name x p) [] kws pos) (tMakeKS C ks.length sp gV E tk) := by
  refine ⟨fun pins s σ H Q I h => ?_⟩
  refine wpAny_Call_Name_kw (ld_glob I hg hm ?_ hdb)
  refine PySem.W.callWith_KW0 (h₀ := X.base) I.ok.mod.kin M.kp hall ?_ hpl
  refine thn (hkw.run pos pins s σ H _ I h) fun ws s1 ⟨zs, H1, I1, rz, l2, q⟩ => ⟨I1.kIn, ?_⟩
  rw [hks]
  have want := q (s1.heap.objs.size + 1) s1.heap.objs.size (I1.hok.fresh (Nat.le_succ _)) (I1.hok.fresh (Nat.le_refl _)) (Nat.ne_of_lt (Nat.lt_succ_self _))
  have J := Inv.made (C := C) I1
  have r1 : Vals [V.ref (s1.heap.objs.size + 1)] [Value.ref (s1.heap.objs.size + 1)] := .cons rfl .nil
  have r2 := hb.rel r1 rz
  refine wpAny_call (make_map (f := f) I1.kIn M.makes M.init (beq_iff_eq.mp M.fn) (codeAny_mono
    (F.run _ X.stack _ _ ⟨[Value.ref (s1.heap.objs.size + 1)], ks.zip ws⟩ (g [Value.ref (s1.heap.objs.size + 1)] ws) _ _ (E σ) (hr.make C [] (ks.zip ws)) (J.env0.make C [] (ks.zip ws)) (hb.to _ [Value.ref (s1.heap.objs.size + 1)] ws J.kIn rfl (rz.length.symm.trans l2)) r2 want) fun r2 s2 z => ?_))
  match r2, z with
  | .error er, z => exact hx σ pins _ _ er s2 J z
  | .ok (.ret u), z =>
    obtain ⟨v, H', I3, rv, ev, q3⟩ := J.after z
    subst ev
    exact ⟨rv, ⟨V.ref (s1.heap.objs.size + 1), H', I3, rfl, q3⟩⟩
  | .ok .next, z => exact False.elim z
  | .ok .brk, z => exact False.elim z
  | .ok .cont, z => exact False.elim z
end
/-- isinstance(e, cs), e the error at a, cs a tuple of classes -/
def rIsPT (K : PySem.W.Frag) (a C d : Addr) : List V → Hp → VK → Prop := fun xs H Q => ExcC K C ∧ ∃ (tp : Addr) (cs : List V) (ws : List Value) (b : Bool) (fs : List (Str × V)), xs = [.ref a, .ref tp] ∧ H tp = some (.tup cs) ∧ Paired ClsV cs ws ∧ PySem.W.kitAny K (.ref C) ws = some b ∧ H d = some (.xd fs) ∧ Q (.bl b) H
section
variable {X : Cx} {C d : Addr} {p : Addr × Obj}
theorem call_isPT (hp : p ∈ X.pn) (ep : ErrP C d p) : CallR X (.builtin "isinstance") (rIsPT X.K p.1 C d) := by
  intro pins s σ H xs us Q I r h
  obtain ⟨ec, tp, cs, ws, b, fs, rfl, hT, k, e, hd, q⟩ := h
  obtain ⟨u1, u2, rfl, r1, r2⟩ := vals2 r
  cases (show u1 = Value.ref p.1 from r1)
  cases (show u2 = Value.ref tp from r2)
  obtain ⟨hget, _⟩ := I.pin p (List.mem_append_left _ hp)
  obtain ⟨vs, hv⟩ := ep.fs
  have hx : ObjOk X.prog X.w H s.heap d (.xd fs) := I.hok d _ hd
  obtain ⟨mA, ns, _⟩ := hx
  obtain ⟨od, hod, _⟩ := lookIn_ns ns
  have J : PySem.W.InstAt s.heap p.1 p.2 C (some od) := by
    obtain ⟨z1, z2⟩ := ep.z
    exact ⟨hget, z1, by unfold PySem.W.notCls; rw [hv] <;> rfl, by rw [z2]; exact hod⟩
  obtain ⟨_, its, rv, o, h1, h2, n, h3⟩ := (show ObjOk X.prog X.w H s.heap tp (.tup cs) from I.hok tp _ hT)
  have e3 := ClsV.all k rv
  subst e3
  obtain ⟨oc, od', dt, sl⟩ := o
  simp only at h2 h3
  subst h2 h3
  exact PySem.W.kia_tup (MXc.kit_err ec) I.kIn J h1 e (fun z => nomatch z) fun tk => ⟨.bl b, H, I.kept (t' := tk) fun _ _ z => z, rfl, q⟩
end
end MXj
/-! The law's own def where nothing is being printed: str(list) in it; its end from there. -/
namespace MXk
open PySem PySem.Spec PyProof.Rows L2
/-- a def's promise where nothing is being printed -/
structure FnG (P : Program) (w : World) (K : PySem.W.Frag) (mg : Str → Option Value) (base : Heap) (k : Nat) (f : Addr) (fd : FuncData) (ps : List Str) (sp : Sp) : Prop where
  len : ∀ vs H Q E, sp vs H Q E → vs.length = ps.length
  run : ∀ (A : Around) (outer : List Env) (s : Shared) (H : Hp) (args : Args) (us : List Value) (vs : List V) (Q : VK) (E : XK), Room k A → A.guards = some [] → Env0 P w K mg base A outer s H → BindsTo s fd args (ps.zip us) → Vals vs us → sp vs H Q E →
    codeAny (model P w) A (.call (.ref f) args) (CR CX0 outer P w H s Q E) s
section
variable {P : Program} {w : World} {K : PySem.W.Frag} {mg : Str → Option Value} {base : Heap} {k : Nat} {f : Addr} {fd : FuncData} {N ps : List Str} {sp : Sp} {x qual : Str} {st : Stmt}
theorem _root_.L2.Fun.okG (F : Fun K x qual st f fd) (S : FnScope N ps (defScope st)) (len : ∀ vs H Q E, sp vs H Q E → vs.length = ps.length)
    (body : ∀ (cdv : Value) (A : Around) (outer : List Env) (s : Shared) (H : Hp) (vs : List V) (Q : VK) (E : XK), A.guards = some [] → Room k (A.deeper (envOfC qual (defScope st) s.heap.objs.size f cdv)) → sp vs H Q E →
      ∃ t, PSs (cxOf CX0 P w K mg base N qual (defScope st) f cdv A outer s H E).nox (defBody st) t ∧ t { nx := fun _ H' => Q .non H', rt := Q } (L2.start N vs) H) : FnG P w K mg base (k + 1) f fd ps sp := by
  obtain ⟨oc, od, kV, doc, pm, an, cdv, ct, osl, rfl, lk, hcd⟩ := F.ex
  constructor
  · exact len
  · intro A outer s H args us vs Q E room none e0 bi rel hsp
    have nl := len _ _ _ _ hsp
    have up : ∀ b o, base.get? b = some o → s.heap.get? b = some o := fun b o e => (e0.bs b o e).1
    have kin : K.In s.heap := e0.mod.kin.keeps up
    have kinds : ∀ y ∈ ps.zip us, (defScope st).names.lookup y.1 = some .local ∨ ((defScope st).names.lookup y.1 = some .cell ∧ ((cellsFrom (s.heap.objs.size + 1) (defScope st).names []).lookup y.1).isSome = true) := by
      rintro ⟨n, v⟩ hy
      rcases S.par n (List.of_mem_zip hy).1 with q | q
      · exact Or.inl q
      · exact Or.inr ⟨q, PySem.W.cellsFrom_some _ _ _ (Or.inl q)⟩
    refine codeAny_call_function room.depth (kin _ _ lk) rfl S.co S.gen rfl (PySem.W.codeRec_of kin hcd) (bi _ _ _ _ (wpAny_newFunctionEnv_cells S.kind kinds fun env eqv s1 ic => ?_))
    subst eqv
    obtain ⟨t, ht, hq⟩ := body cdv A outer s H vs Q E none (room.deeper _) hsp
    have J : Inv (cxOf CX0 P w K mg base N qual (defScope st) f cdv A outer s H E) [] (L2.start N vs) H s1 := inv_start S room.hd e0 nl rel ic
    refine ⟨(e0.mod.nolimit.keeps up).keeps ic.toInCall.keep, codeAny_func (wpAny_mono (ht.nox.run [] s1 (L2.start N vs) H _ J hq) (fun fl s' z => ?_) fun e s' z => z)⟩
    have done : ∀ {σ' : L2.St} {H' : Hp} {v : V} {u : Value}, Inv (cxOf CX0 P w K mg base N qual (defScope st) f cdv A outer s H E) [] σ' H' s' → RelV v u → Q v H' → CE outer P w H s Q u s' := by
      intro σ' H' v u I r q
      exact ⟨v, H', I.os, I.bare, I.base, I.hok, r, q⟩
    match fl, z with
    | .ret u, ⟨v, σ', H', I, r, q⟩ => exact done I r q
    | .next, ⟨σ', H', I, q⟩ => exact done (v := V.non) (u := Value.none) I rfl q
    | .brk, ⟨_, _, _, q⟩ => exact False.elim q
    | .cont, ⟨_, _, _, q⟩ => exact False.elim q
end
/-- what an abstract heap must be for the script at a to be at hand -/
structure Gr (P : Program) (w : World) (K : PySem.W.Frag) (s : Shared) (a : Addr) (ns : List Int) (H : Hp) : Prop where
  only : Only H
  seq : SqL K H a (ns.map V.int)
  hok : HOk P w H s.heap
  at_ : ∀ b, H b ≠ none → b = a
  free : H a ≠ none → K.lookup a = none
theorem gr_ex {P : Program} {w : World} {K : PySem.W.Frag} {s : Shared} {a : Addr} {vs : List Value} {ns : List Int} (kin : K.In s.heap) (ha : s.heap.get? a = some { cls := .type "list", data := .seq vs.toArray }) (hi : IntsAre vs ns) (hl : ns.length ≤ sizeLine) : ∃ H, Gr P w K s a ns H := by
  have rel := vals_ints hi
  cases own : K.lookup a with
  | some o =>
    have q := kin a o own
    rw [ha] at q
    cases q
    refine ⟨fun _ => none, ⟨fun _ => Or.inl rfl, Or.inr ⟨_, vs.toArray, _, own, rfl, rfl, rfl, ?_, by simpa using rel⟩, fun b u z => ?_, fun b z => absurd rfl z, fun z => absurd rfl z⟩⟩
    · rw [List.size_toArray, hi.length]
      exact hl
    · cases (show (none : Option HO) = some u from z)
  | none =>
    refine ⟨fun b => if b = a then some (.frz { cls := .type "list", data := .seq vs.toArray } (.lst (ns.map V.int))) else none, ⟨fun b => ?_, Or.inl (Or.inr ⟨_, if_pos rfl⟩), fun b u z => ?_, fun b z => ?_, fun _ => own⟩⟩
    · by_cases e : b = a
      · exact Or.inr ⟨_, _, if_pos e⟩
      · exact Or.inl (if_neg e)
    · by_cases e : b = a
      · subst e
        cases (if_pos rfl).symm.trans z
        refine ⟨ha, ?_, vs, _, rel, ha⟩
        rw [List.length_map]
        exact hl
      · cases (if_neg e).symm.trans z
    · by_cases e : b = a
      · exact e
      · exact absurd (if_neg e) z
theorem call_law {P : Program} {w : World} {K : PySem.W.Frag} {mg mb : Str → Option Value} {k : Nat} {fa a : Addr} {fd : FuncData} {x : Str} {sp : Sp} {s : Shared} {vs : List Value} {ns : List Int}
    (kin : K.In s.heap) (hns : s.heap.Ns mainGlobals mg) (hb : s.heap.Ns builtinsNs mb) (boot : ∀ x : Str, x ≠ "__name__" → mb x = bootBuiltins x) (lim : s.heap.NoLimit) (gens : s.gens = #[])
    (ha : s.heap.get? a = some { cls := .type "list", data := .seq vs.toArray }) (hi : IntsAre vs ns) (hl : ns.length ≤ sizeLine) (room : Room k callerA)
    (F : ∀ base : Heap, K.In base → base.Ns mainGlobals mg → FnG P w K mg base k fa fd [x] sp) (bind : ∀ (s : Shared) (u : Value), BindsTo s fd ⟨[u], []⟩ [(x, u)])
    (hsp : ∀ H : Hp, Only H → SqL K H a (ns.map V.int) → sp [.ref a] H (fun v _ => v = .bl true) fun _ _ _ => False) :
    codeAny (model P w) callerA (.call (.ref fa) ⟨[.ref a], []⟩) (fun r s' => r = .ok (.ret (.bool true)) ∧ OldK s.heap s'.heap ∧ s'.os = s.os ∧ AllBare s'.gens) s := by
  obtain ⟨H, G⟩ := gr_ex (P := P) (w := w) kin ha hi hl
  have noDict : ∀ {b : Addr} {o : Obj} {es : Array DictEntry} {ep : Nat}, s.heap.get? b = some o → o.data = .dict es ep → H b = none := by
    intro b o es ep e d
    cases q : H b with
    | none => rfl
    | some u =>
      obtain rfl : b = a := G.at_ b (by rw [q]; exact nofun)
      rw [ha] at e
      cases e
      cases (show Data.seq vs.toArray _ = Data.dict es ep from d)
  have ns' : ∀ {b : Addr} {m : Str → Option Value}, s.heap.Ns b m → (hidT s.heap H).Ns b m := fun {b m} ⟨o, es, ep, e, d, r⟩ => ⟨o, es, ep, hidT_get e (noDict e d), d, r⟩
  have kin' : K.In (hidT s.heap H) := fun b o e => hidT_get (kin b o e) (by
    cases q : H b with
    | none => rfl
    | some u =>
      obtain rfl : b = a := G.at_ b (by rw [q]; exact nofun)
      rw [G.free (by rw [q]; exact nofun)] at e
      cases e)
  obtain ⟨mc, l1, l2⟩ := lim
  have mod : Mod K mg (hidT s.heap H) := ⟨kin', ns' hns, ⟨mb, ns' hb, boot⟩, mc, ns' l1, l2⟩
  have e0 : Env0 P w K mg (hidT s.heap H) callerA [] s H := ⟨rfl, mod, fun b o e => of_hidT e, Nat.le_of_eq (hidT_size _ _), True.intro, fun b inn => (List.not_mem_nil inn).elim, G.hok, .of_eq gens⟩
  have run := (F _ kin' (ns' hns)).run callerA [] s H ⟨[.ref a], []⟩ [.ref a] [.ref a] _ _ room rfl e0 (bind s (.ref a)) (.cons rfl .nil) (hsp H G.only G.seq)
  refine codeAny_mono run fun r s' z => ?_
  match r, z with
  | .error e, z => exact z.elim
  | .ok .next, z => exact False.elim z
  | .ok .brk, z => exact False.elim z
  | .ok .cont, z => exact False.elim z
  | .ok (.ret u), ⟨v, H', os, bare, un, hok', r', q⟩ =>
    cases (show v = V.bl true from q)
    cases (show u = Value.bool true from r')
    refine ⟨rfl, OldK.of_keep fun b o e => ?_, os, bare⟩
    cases q : H b with
    | none => exact un.keep b o e q (fun z => (List.not_mem_nil z).elim) (by exact List.not_mem_nil)
    | some u =>
      rcases G.only b with z | ⟨ob, xs, z⟩
      · rw [q] at z
        cases z
      · obtain ⟨here, _⟩ := G.hok b _ z
        obtain ⟨there, _⟩ := hok' b _ (un.frzs b ob _ z)
        rw [e] at here
        cases here
        exact there
/-- the goal behind the head -/
theorem walk_G {l : PySem.W.OpenLaw} {n k : Nat} {q : Program} {loose : List Str} {XP : (Str → Option Value) → Heap → Prop} {YP : World → Heap → Prop} {d : DefRec} {K : Params → PySem.W.Frag} {sp : World → Sp} {x : Str}
    (hn : l.most = some n) (hn2 : n ≤ sizeLine) (hdf : d.params.defaults = []) (hr : Room k callerA) (hY : ∀ (w : World) (h : Heap), YP w h → (K w.params).In h)
    (F : ∀ (w : World) (mg : Str → Option Value) (fa : Addr) (h : Heap), (K w.params).In h → h.Ns mainGlobals mg → mg d.name = some (.ref fa) →
      ∃ fd : FuncData, (∀ (s : Shared) (u : Value), BindsTo s fd ⟨[u], []⟩ [(x, u)]) ∧ ∀ base : Heap, (K w.params).In base → base.Ns mainGlobals mg → FnG l.prog w (K w.params) mg base k fa fd [x] (sp w))
    (hsp : ∀ (w : World) (H : Hp) (a : Addr) (ns : List Int), ns.length ≤ n → Only H → SqL (K w.params) H a (ns.map V.int) → sp w [.ref a] H (fun v _ => v = .bl true) fun _ _ _ => False) :
    PySem.W.WalkO q loose XP YP l.row.toRowW d [] (fun f vs => PySem.call f vs) := by
  refine Att.attach_call hn hdf ?_
  intro w s₀ s₁ mg mb fa o pm cd doc a vs ns G Y ho hd hcd hmg hobj hints hlen hg
  obtain ⟨fd, bind, promise⟩ := F w mg fa _ (hY w _ Y) G.T.g hmg
  exact call_law (hY w _ Y) G.T.g G.T.b G.T.builtins G.T.nolimit hg hobj hints (Nat.le_trans hlen hn2) hr promise bind fun H only seq => hsp w H a ns hlen only seq
/-- str(x), x a list or a tuple that is read as data, where nothing is being printed -/
def rStrD (K : PySem.W.Frag) : List V → Hp → VK → Prop := fun xs H Q => ∃ (a : Addr) (d : PyData), xs = [.ref a] ∧ Dp K H (.ref a) d ∧ d.showable = true ∧ d.hasDict = false ∧ d.depth ≤ 20 ∧ d.shown.length ≤ sizeLine ∧ Q (.str d.shown) H
section
variable {X : Cx}
theorem cr_strD (hg : X.A.guards = some []) (hu : X.A.units + 64 < cLine) : CallR X (.type "str") (rStrD X.K) := by
  intro pins s σ H xs us Q I r h
  obtain ⟨a, d, rfl, hd, hs, nd, dp, sz, q⟩ := h
  obtain ⟨u, rfl, ru⟩ := vals1 r
  cases (show u = Value.ref a from ru)
  obtain ⟨as, rd⟩ := Dp.reads I d _ _ hd ru
  exact str_of_reads rd hs (PyData.noDict_hsm nd) hg (by omega) (fun _ _ e => e) (fun h' u tk hk => ⟨.str d.shown, H, I.kept (t' := tk) hk, ⟨u, rfl⟩, q⟩) sz
end
end MXk
/-! x, y = a, b in an except suite. -/
namespace MXl
open PySem PySem.Spec PyProof.Rows L2 L2H HotX
section
variable {prog : Program} {w : World} {A : Around} {E : Value → Shared → Prop} {s : Shared}
/-- the end of a tuple's walk while an error is handled -/
theorem endsT {it t x1 : Addr} {i : Nat} {items : Array Value} {Q : Option Value → Shared → Prop} (hot : HotAt A x1 s.heap) (apart : x1 ≠ it) (hit : IsTupIter s.heap it t i) (ht : IsTup s.heap t items) (out : items[i]? = none)
    (k : ∀ h', Heap.ExtBut it s.heap h' → Q none { s with heap := h' }) : wpAny (model prog w) A (pyNext (.ref it)) Q E s := by
  obtain ⟨oi, gi, ci, di⟩ := id hit
  obtain ⟨ot, gt, _, m, dt⟩ := ht
  obtain ⟨hh, o1, v1, g1, d1, c1⟩ := hot
  have typ := hit.typeIs
  unfold pyNext
  apply wpAny_bind
  apply wpAny_attempt
  refine wpAny_callSpecial?_slot (name := Str.ofString "__next__") typ slot_tupleiter_next (wpAny_call_entry slot_tupleiter_next typ entry_tupleiter_next ?_ (args_tupleiter_next _))
  show wpAny _ _ (field (.ref it) 0 >>= _) _ _ _
  apply wpAny_bind
  refine wpAny_field gi di (x := .ref t) rfl ?_
  show wpAny _ _ (if (Value.ref t == Value.none) = true then _ else _) _ _ _
  rw [if_neg (by exact Bool.false_ne_true)]
  show wpAny _ _ (field (.ref it) 1 >>= _) _ _ _
  apply wpAny_bind
  refine wpAny_field gi di (x := .int i 0) rfl ?_
  show wpAny _ _ (seqItems? (.ref t) >>= _) _ _ _
  apply wpAny_bind
  refine wpAny_seqItems gt dt ?_
  simp only [Int.toNat_natCast, out]
  apply wpAny_bind
  apply wpAny_rule
  apply wpAny_bind
  refine wpAny_setField gi di (by simp) ?_
  have g1' : (s.heap.update it (Obj.mapFields (·.setIfInBounds 0 Value.none))).get? x1 = some o1 := (Heap.get?_update_other _ _ (Ne.symm apart)).trans g1
  show wpAny _ _ (newExc (.type "StopIteration") [] >>= _) _ _ _
  apply wpAny_bind
  simp only [newExc, newTuple]
  apply wpAny_bind
  refine wpAny_newObj_type ?_ (by size_fits)
  refine wpAny_bind (m := firstArgMember _ _) (wpAny_of_eq (a := Value.none) (by first | rfl | (simp only [firstArgMember]; rfl)) ?_)
  refine wpAny_newObj_type ?_ (by size_fits)
  refine raiseNew_hot ⟨hh, o1, v1, Heap.get?_push_of_some _ (Heap.get?_push_of_some _ g1'), d1, c1⟩ (Nat.ne_of_lt (Heap.lt_size (Heap.get?_push_of_some _ g1'))) (Heap.get?_push_size _ rfl) rfl (by first | (simp; done) | (simp; omega) | (simp only [Array.size_append]; simp; omega)) ?_
  apply wpAny_bind
  refine wpAny_isInstance (T := "StopIteration") (b := true) ⟨_, Heap.get?_update_self _ (Heap.get?_push_size _ rfl) rfl, rfl⟩ isSubtype_stop ?_
  refine wpAny_pure (k _ fun b o nb e => ?_)
  have e1 : (s.heap.update it (Obj.mapFields (·.setIfInBounds 0 Value.none))).get? b = some o := (Heap.get?_update_other _ _ (Ne.symm nb)).trans e
  rw [Heap.get?_update_other _ _ (Nat.ne_of_gt (Heap.lt_size (Heap.get?_push_of_some _ e1)))]
  exact Heap.get?_push_of_some _ (Heap.get?_push_of_some _ e1)
/-- a tuple taken apart while an error is handled -/
theorem apartT {t x1 : Addr} {items : Array Value} {Q : List Value → Shared → Prop} (hot : HotAt A x1 s.heap) (ht : IsTup s.heap t items) (k : ∀ h', Heap.ExtBut s.heap.objs.size s.heap h' → Q items.toList { s with heap := h' }) :
    wpAny (model prog w) A (unpackItems (.ref t) items.size none) Q E s := by
  obtain ⟨hh, o1, v1, g1, d1, c1⟩ := hot
  have new : t ≠ s.heap.objs.size := by
    obtain ⟨o, e, _⟩ := ht
    exact Nat.ne_of_lt (Heap.lt_size e)
  have far : x1 ≠ s.heap.objs.size := Nat.ne_of_lt (Heap.lt_size g1)
  unfold unpackItems
  apply wpAny_bind
  unfold notIterableAtAll
  apply wpAny_bind
  refine wpAny_specialOf ht.typeIs slot_tuple_iter.lookup ?_
  apply wpAny_pure
  simp only [Bool.false_eq_true, if_false]
  apply wpAny_bind
  refine wpAny_holding (iter_tuple ht ?_)
  apply wpAny_bind
  refine wpAny_holding (draw_tuple new items.size 0 _ _ ⟨_, Heap.get?_push_size _ rfl, rfl, rfl⟩ (ht.push _) (by omega) fun h1 it1 sb1 => ?_)
  have whole : List.take items.size (List.drop 0 items.toList) = items.toList := List.take_of_length_le (by simp)
  rw [whole, if_neg (by simp)]
  have t1 : IsTup h1 t items := (ht.push _).extBut sb1.extBut new
  apply wpAny_bind
  refine wpAny_holding (endsT ⟨hh, o1, v1, sb1.extBut _ _ far (Heap.get?_push_of_some _ g1), d1, c1⟩ far it1 t1 (by simp) fun h2 e2 => ?_)
  simp only [Option.isSome_none, Bool.false_eq_true, if_false]
  exact wpAny_pure (k h2 fun b o nb e => e2 b o nb (sb1.extBut b o nb (Heap.get?_push_of_some _ e)))
end
section
variable {X : Cx} {pos : Pos}
theorem ps_parH {i j : Nat} {x y : Str} {a b : Expr} {ta : TA} {px py pt : Pos} {kt k2 pt2} (hc : HotC X) (hN : X.N.Nodup) (hi : X.N[i]? = some x) (hj : X.N[j]? = some y) (hij : i ≠ j) (hx : X.env.scope.names.lookup x = some .local) (hy : X.env.scope.names.lookup y = some .local)
    (ha : PA X [a, b] ta) (hw : swappedStores [.Tuple [.Name x px, .Name y py] kt pt] (.Tuple [a, b] k2 pt2) X.env = pure (some [x, y])) (hs : swapsWithSole [.Tuple [.Name x px, .Name y py] kt pt] (.Tuple [a, b] k2 pt2) pos.line X.env = pure false := by rfl) :
    PS X (.Assign [.Tuple [.Name x px, .Name y py] kt pt] (.Tuple [a, b] k2 pt2) pos) (tPar i j ta) := by
  constructor
  intro pins s σ H D I want
  rw [exec_Assign_arm]
  apply wpAny_bind
  apply wpAny_standAt
  rw [hs]
  apply wpAny_bind
  apply wpAny_pure
  rw [if_neg (by decide)]
  apply wpAny_bind
  apply Tuple_
  refine thn (ha.run _ pins s σ H _ I want) fun us s1 ⟨vs, H1, I1, r1, v, w, e1, q1⟩ => ?_
  subst e1
  obtain ⟨u1, u2, rfl, rv, rw'⟩ := vals2 r1
  refine wpAny_newObj_type ?_ (by show 2 ≤ sizeLine; decide)
  have I2 : Inv X pins σ H1 { s1 with heap := s1.heap.push { cls := .type "tuple", data := .seq [u1, u2].toArray } } := I1.kept (t' := s1.toks) fun b o e => Heap.get?_push_of_some _ e
  rw [hw]
  apply wpAny_bind
  apply wpAny_pure
  show wpAny (model X.prog X.w) X.A (rule "assign.swapped-stores" >>= fun _ => unpackItems (.ref s1.heap.objs.size) 2 none >>= fun items => assignInOrder [fun v => bindName X.env y v, fun v => bindName X.env x v] items.reverse >>= fun _ => pure Flow.next) _ _ _
  apply wpAny_bind
  apply wpAny_rule
  apply wpAny_bind
  obtain ⟨x1, hot⟩ := hc.at I2
  refine apartT (items := #[u1, u2]) hot (IsTup.new s1.heap _) fun h' ext => ?_
  have I3 := I2.kept (h' := h') (t' := s1.toks) fun b o e => ext b o (Nat.ne_of_lt (Heap.lt_size e)) e
  show wpAny _ _ (assignInOrder [fun v => bindName X.env y v, fun v => bindName X.env x v] [u2, u1] >>= fun _ => pure Flow.next) _ _ _
  apply wpAny_bind
  apply assignInOrder_cons
  apply wpAny_bindName
  refine store_ok I3 hN hj (.inl hy) rw' (fun s2 I4 => ?_) (.inr hy)
  apply assignInOrder_cons
  apply wpAny_bindName
  refine store_ok I4 hN hi (.inl hx) rv (fun s3 I5 => assignInOrder_nil (wpAny_pure ?_)) (.inr hx)
  rw [List.set_comm _ _ (Ne.symm hij)] at I5
  exact ⟨_, H1, I5, q1⟩
theorem hot_suite {X : Cx} {a : Addr} {oe : Obj} {cls : Value} {d : Option Addr} {pn : List (Addr × Obj)} (hz : L2N.Zn cls d oe) (hf : ∃ vs, oe.data = .fields vs) : HotC (X.suite a ((a, oe) :: pn)) := by
  obtain ⟨vs, e⟩ := hf
  exact ⟨(a, oe), ⟨rfl, vs, e, hz.2.2 vs e⟩, List.mem_cons_self⟩
end
end MXl
namespace X6
open PySem PySem.Spec PyProof.Rows L2 L2H LK RZ MXb MXd MXe MXf MXg MXj MXl
/-- a suite's reading where the error is of an own class and has a dict -/
def tErr (t : Addr → Addr → Addr → TS) : Addr → Value → Option Addr → TS := fun a cls d => match cls, d with
  | .ref C, some dd => t a C dd
  | _, _ => fun _ _ _ => False
theorem ps_err {X : Cx} {st : List Stmt} {a : Addr} {oe : Obj} {cls : Value} {d : Option Addr} {pn : List (Addr × Obj)} {t : Addr → Addr → Addr → TS} (hz : L2N.Zn cls d oe) (hf : ∃ vs, oe.data = .fields vs)
    (h : ∀ C dd, ErrP C dd (a, oe) → PSs (X.suite a ((a, oe) :: pn)) st (t a C dd)) : PSs (X.suite a ((a, oe) :: pn)) st (tErr t a cls d) := by
  match cls, d with
  | .ref C, some dd => exact h C dd ⟨hz.zc, hf⟩
  | .ref _, none => exact pss_no
  | .none, _ => exact pss_no
  | .ellipsis, _ => exact pss_no
  | .notImplemented, _ => exact pss_no
  | .bool _, _ => exact pss_no
  | .int _ _, _ => exact pss_no
  | .float _ _, _ => exact pss_no
  | .str _ _, _ => exact pss_no
  | .bytes _ _, _ => exact pss_no
  | .type _, _ => exact pss_no
  | .builtin _, _ => exact pss_no
/-- what the law says of the errors' classes -/
structure ErK (K : PySem.W.Frag) (mg : Str → Option Value) (CR CF CL CP : Addr) : Prop where
  gR : mg "RunError" = some (.ref CR)
  gP : mg "InvalidLoop" = some (.ref CP)
  ff : PySem.W.exmOne K (.ref CF) (.ref CF) = some true
  lf : PySem.W.exmOne K (.ref CL) (.ref CF) = some false
  ll : PySem.W.exmOne K (.ref CL) (.ref CL) = some true
  fR : PySem.W.kitOne K (.ref CF) (.ref CR) = some true
  lR : PySem.W.kitOne K (.ref CL) (.ref CR) = some true
  fO : PySem.W.kitAny K (.ref CF) [.ref CL, .ref CP] = some false
  lO : PySem.W.kitAny K (.ref CL) [.ref CF, .ref CP] = some false
/-- a made cloth at x: its loops and its fast ones as they were handed in -/
def Made (K : PySem.W.Frag) (CC : Addr) (H H' : Hp) (x : Addr) (ds : List PyData) (ms : List Int) : Prop := ∃ (dx L G : Addr) (xs : List V), H x = none ∧ H L = none ∧ H G = none ∧ L ≠ G ∧ x ≠ L ∧ x ≠ G ∧
  H' x = some (.ins CC dx [("_loops", .ref L), ("_fast", .ref G)]) ∧ H' L = some (.lst xs) ∧ DpAll K H' xs ds ∧ H' G = some (.lst (ms.map V.int)) ∧ Same H H'
def spMade (K : PySem.W.Frag) (CC : Addr) : Sp := fun vs H Q _ => ∃ (way : Int) (u v : V) (d e : PyData), vs = [.int way, u, v] ∧ Dp K H u d ∧ Dp K H v e ∧ tame d = true ∧ d.canLay0 = true ∧ tame e = true ∧
  (∀ s i t H', dueD d e = some (s, i) → H t = none → H' t = some (.tup [.str s, .int i]) → Same H H' → Q (.ref t) H') ∧
  ∀ (ds : List PyData) (ns ms : List Int) (x : Addr) (H' : Hp), dueD d e = none → d = .list ds → e = .list (ns.map PyData.int) → ms.Perm ns → ms.Pairwise (· ≤ ·) → Made K CC H H' x ds ms → Q (.ref x) H'
def gKw {α : Type} : List α → List α → List α := fun us ws => match ws with
  | [a, b] => us ++ [b, a]
  | _ => []
theorem gKw_rel {vs zs : List V} {us ws : List Value} (a : Vals vs us) (b : Vals zs ws) : Vals (gKw vs zs) (gKw us ws) := by
  unfold gKw
  match b with
  | .nil => exact .nil
  | .cons _ .nil => exact .nil
  | .cons r1 (.cons r2 .nil) => exact a.append (.cons r2 (.cons r1 .nil))
  | .cons _ (.cons _ (.cons _ _)) => exact .nil
theorem due_cases {d e : PyData} {s : Str} {i : Int} (h : dueD d e = some (s, i)) : s = "loops" ∨ s = "fast" := by
  unfold dueD at h
  split at h
  · cases h
    exact .inl rfl
  · cases d with
    | list ds =>
      obtain ⟨j, _, q⟩ := Option.map_eq_some_iff.mp h
      cases q
      exact .inr rfl
    | _ => cases h
theorem sqt_but {K : PySem.W.Frag} {H H' : Hp} {x a C dx : Addr} {fs : List (Str × V)} {xs : List V} (hx : H x = some (.ins C dx fs)) (s : But x H H') (h : SqT K H a xs) : SqT K H' a xs := by
  rcases h with (h | ⟨o, h⟩) | h
  · exact .inl (.inl (s _ _ (ne_of h hx (by intro q; cases q)) h))
  · exact .inl (.inr ⟨o, s _ _ (ne_of h hx (by intro q; cases q)) h⟩)
  · exact .inr h
mutual
theorem dp_but {K : PySem.W.Frag} {H H' : Hp} {x C dx : Addr} {fs : List (Str × V)} (hx : H x = some (.ins C dx fs)) (s : But x H H') : ∀ {v : V} {d : PyData}, Dp K H v d → Dp K H' v d
  | _, _, .non => .non
  | _, _, .bl b => .bl b
  | _, _, .int i => .int i
  | _, _, .str z => .str z
  | _, _, .lst q a => .lst (sql_but hx s q) (dps_but hx s a)
  | _, _, .tup q a => .tup (sqt_but hx s q) (dps_but hx s a)
theorem dps_but {K : PySem.W.Frag} {H H' : Hp} {x C dx : Addr} {fs : List (Str × V)} (hx : H x = some (.ins C dx fs)) (s : But x H H') : ∀ {vs : List V} {ds : List PyData}, DpAll K H vs ds → DpAll K H' vs ds
  | _, _, .nil => .nil
  | _, _, .cons a r => .cons (dp_but hx s a) (dps_but hx s r)
end
theorem none0 {X : Cx} : L2N.Takes X (fun _ _ _ _ => False) := fun _ _ x => by
  obtain ⟨_, _, _, _, _, _, _, _, _, _, _, _, _, _, _, _, z⟩ := x
  exact z.elim
section
variable {P : Program} {w : World} {K : PySem.W.Frag} {mg : Str → Option Value} {base : Heap} {fI CC CR CF CL CP fC : Addr} {fdC : FuncData}
def tSuite (K : PySem.W.Frag) (word : Str) (CE CR CA CP : Addr) : Addr → Addr → Addr → TS := fun a C d =>
  tPar 3 4 (tCons (tTup (tCons (tC (.str word)) (tCons (tXf a (.ref C) (some d) CE "value" (tVar 5)) tNil)))
    (tCons (tAndV (tCB (rIsP K a C d) (tCons (tVar 5) (tCons (tC (.ref CR)) tNil))) (tNotV (tCB (rIsPT K a C d) (tCons (tVar 5) (tCons (tTup (tCons (tC (.ref CA)) (tCons (tC (.ref CP)) tNil))) tNil))))) tNil))
theorem err_suite {word : Str} {CE CA a dd : Addr} {D : Ends} {H' : Hp} {i : Int} {x0 x1 x2 x3 x4 x5 : Option V} (ec : ExcC K CE) (kR : PySem.W.kitOne K (.ref CE) (.ref CR) = some true) (kO : PySem.W.kitAny K (.ref CE) [.ref CA, .ref CP] = some false)
    (hd : H' dd = some (.xd [("value", .int i)])) (k : ∀ t H3, H' t = none → H3 t = some (.tup [.str word, .int i]) → Same H' H3 → D.nx [x0, x1, x2, some (.ref t), some (.bl true), none] H3) :
    tErr (tSuite K word CE CR CA CP) a (.ref CE) (some dd) (L2N.fall 5 D) (([x0, x1, x2, x3, x4, x5] : L2.St).set 5 (some (.ref a))) H' := by
  dsimp only [tErr, tSuite]
  refine ⟨_, rfl, rfl, rfl, dd, _, _, rfl, hd, rfl, (by show 2 ≤ sizeLine; decide), fun t nt => ?_⟩
  have s1 := same_new (o := .tup [.str word, .int i]) nt
  refine ⟨_, rfl, ec, _, _, _, _, rfl, fun _ r => r, kR, s1 _ _ hd, _, rfl, LK.ifT rfl ?_⟩
  refine ⟨_, rfl, (by show 2 ≤ sizeLine; decide), fun tp ntp => ?_⟩
  have s2 := same_new (o := .tup [.ref CA, .ref CP]) ntp
  refine ⟨ec, tp, _, _, _, _, rfl, upd_same, .cons (.own _) (.cons (.own _) .nil), kO, s2 _ _ (s1 _ _ hd), _, rfl, _, _, rfl, ?_⟩
  exact k t _ nt (s2 _ _ upd_same) (s1.trans s2)
end
end X6
namespace X6
open PySem PySem.Spec PyProof.Rows L2 LK
abbrev sEq : Stmt := inClass (top 18) 10
/-- a cloth of no loops -/
def Bare (CC : Addr) (H : Hp) (x : Addr) : Prop := ∃ dx L G, H x = some (.ins CC dx [("_loops", .ref L), ("_fast", .ref G)]) ∧ H L = some (.lst []) ∧ H G = some (.lst [])
def BothBare (CC : Addr) : Addr → Addr → Hp → Prop := fun x y H => Bare CC H x ∧ Bare CC H y
section
variable {P : Program} {w : World} {K : PySem.W.Frag} {mg : Str → Option Value} {base : Heap} {CC : Addr}
theorem scEq : FnScope ["self", "other"] ["self", "other"] (defScope sEq) := ⟨rfl, rfl, rfl, by decide +kernel, rfl, by decide +kernel, by decide +kernel⟩
/-- the type of an instance of the class -/
structure InsTy (K : PySem.W.Frag) (C : Addr) : Prop where
  ty : ∀ {H : Hp} {x dx : Addr} {fs : List (Str × V)}, H x = some (.ins C dx fs) → TyX K H (.ref x) (.ref C)
  own : PySem.W.kitOne K (.ref C) (.ref C) = some true
  tup : PySem.W.kitOne K (.ref C) (.type "tuple") = some false
theorem ok_Eq {f : Addr} {fd : FuncData} (F : Fun K "__eq__" "Cloth.__eq__" sEq f fd) (B : Bl mg) (gC : mg "Cloth" = some (.ref CC)) (cc : Cls K CC) (n1 : NoAttr K CC "_loops") (n2 : NoAttr K CC "_fast") (it : InsTy K CC) : FnOk P w K mg base CX0 1 f fd ["self", "other"] (spEq (BothBare CC)) := by
  refine F.ok scEq (fun vs H Q E h => ?_) (fun cdv A outer s H vs Q E hr h => ?_)
  · obtain ⟨a, b, rfl, _⟩ := h
    rfl
  · obtain ⟨a, b, rfl, ⟨⟨dx, L, G, hx, hL, hG⟩, dy, M, N, hy, hM, hN⟩, k⟩ := h
    refine ⟨_, pss_one (ps_ret (pe_and (pe_callB call_isi (by rfl) (B "isinstance" (by decide)) (by decide +kernel) (pa_cons (pv 1) (pa_cons (pe_glob rfl gC (v := .ref CC) rfl) pa_nil))) (pe_and (pe_cmpR (op_eqD hr.units) (pe_fld (pv 0) rfl) (pe_fld (pv 1) rfl) (nomark _)) (pe_one (pe_cmpR (op_eqD hr.units) (pe_fld (pv 0) rfl) (pe_fld (pv 1) rfl) (nomark _)))))), ?_⟩
    have e0 : ∀ {p : Addr}, H p = some (.lst []) → Dp K H (.ref p) (.list []) := fun q => .lst (SqL.of q) .nil
    refine ⟨_, rfl, _, _, _, _, true, rfl, .own CC, it.ty hy, it.own, _, rfl, LK.ifT rfl ?_⟩
    refine ⟨_, rfl, a, CC, dx, _, _, rfl, hx, cc, n1, rfl, _, rfl, b, CC, dy, _, _, rfl, hy, cc, n1, rfl, .list [], .list [], e0 hL, e0 hM, rfl, rfl, _, rfl, LK.ifT rfl ?_⟩
    exact ⟨_, rfl, a, CC, dx, _, _, rfl, hx, cc, n2, rfl, _, rfl, b, CC, dy, _, _, rfl, hy, cc, n2, rfl, .list [], .list [], e0 hG, e0 hN, rfl, rfl, k H Ext.rfl'⟩
end
end X6
/-! Sets of texts whose table rises: added to, comprehended, sorted. -/
namespace MXm
open PySem PySem.Spec PyProof.Rows L2
abbrev Ent := Int × Value
def kS (e : Ent) : Str := match e.2 with
  | .str x _ => x
  | _ => ⟨#[]⟩
/-- one object that is such a set -/
structure Tx (w : World) (o : Obj) (es : Array Ent) (ep : Nat) (t : SetTable) (S : Str → Bool) : Prop where
  ex : o.ExactSet
  da : o.data = .set es ep t
  good : ∀ e ∈ es.toList, ∃ x u, e = (hashStr w x, Value.str x u)
  nd : (es.toList.map kS).Nodup
  mem : ∀ x, S x = true ↔ x ∈ es.toList.map kS
  few : es.size < scanBound
  fit : t.fits es.size = true
  ris : Ris t.place.toList
  led : w.params.followText "set-order" = true ∨ t.led = true
def SetT (w : World) (h : Heap) (a : Addr) (S : Str → Bool) (n : Nat) : Prop := ∃ o es ep t, h.get? a = some o ∧ es.size = n ∧ Tx w o es ep t S
theorem Tx.elems {P : Program} {w : World} {o : Obj} {es : Array Ent} {ep : Nat} {t : SetTable} {S : Str → Bool} (T : Tx w o es ep t S) : ElemsOf (PySem.strKind P w) es.toList := by
  intro e inn
  obtain ⟨x, u, rfl⟩ := T.good e inn
  exact ⟨⟨x, PySem.strKind_is P w x u, rfl⟩, rfl⟩
theorem good_key {w : World} {e : Ent} (g : ∃ x u, e = (hashStr w x, Value.str x u)) (k : Str) : Value.isStrOf k e.2 = true ↔ kS e = k := by
  obtain ⟨x, u, rfl⟩ := g
  simp [Value.isStrOf, kS]
theorem SetT.at {w : World} {h h' : Heap} {a : Addr} {S : Str → Bool} {n : Nat} (R : SetT w h a S n) (k : ∀ o, h.get? a = some o → h'.get? a = some o) : SetT w h' a S n := by
  obtain ⟨o, es, ep, t, e, r⟩ := R
  exact ⟨o, es, ep, t, k o e, r⟩
theorem SetT.lt {w : World} {h : Heap} {a : Addr} {S : Str → Bool} {n : Nat} (R : SetT w h a S n) : a < h.objs.size := by
  obtain ⟨_, _, _, _, e, _⟩ := R
  exact Heap.lt_size e
theorem fresh {h : Heap} (w : World) : SetT w (h.push { cls := .type "set", dict := none, data := .set #[] 0 (.fresh 0 0 (!w.params.followText "set-order")) }) h.objs.size (fun _ => false) 0 := by
  refine ⟨_, #[], 0, _, Heap.get?_push_size _ rfl, rfl, ⟨⟨rfl, rfl, rfl⟩, rfl, fun e inn => ?_, by simp, fun x => by simp, by decide, by rfl, List.Pairwise.nil, ?_⟩⟩
  · simp at inn
  · show _ ∨ (!w.params.followText "set-order") = true
    cases w.params.followText "set-order" with
    | false => exact Or.inr rfl
    | true => exact Or.inl rfl
section
variable {P : Program} {w : World} {A : Around} {E : Value → Shared → Prop} {s : Shared} {a : Addr} {S : Str → Bool} {n : Nat}
/-- the new payload is laid, all anew where the table is too full -/
theorem tailT {note : Bool → Sem Unit} (free : ∀ (b : Bool) (s1 : Shared) (R : Unit → Shared → Prop), R () s1 → wpAny (model P w) A (note b) R E s1) {o : Obj} {es es1 : Array Ent} {ep : Nat} {t t1 : SetTable} {S1 : Str → Bool} (here : s.heap.get? a = some o) (old : o.data = .set es ep t) (ex : o.ExactSet)
    (good : ∀ e ∈ es1.toList, ∃ x u, e = (hashStr w x, Value.str x u)) (nd : (es1.toList.map kS).Nodup) (mem : ∀ x, S1 x = true ↔ x ∈ es1.toList.map kS) (few : es1.size < scanBound) (fit : t1.fits es1.size = true) (ris : Ris t1.place.toList) (led : w.params.followText "set-order" = true ∨ t1.led = true)
    {dum : Bool} {R : Option Bool → Shared → Prop} (k : ∀ h', Heap.SameBut a s.heap h' → SetT w h' a S1 es1.size → R (some true) { s with heap := h' }) :
    wpAny (model P w) A (do
      storeSet a es1 t1
      if (!dum && t1.tooFull) = true then do
        note (relayAll t1 es1 (SetTable.grown es1.size)).2.2
        storeSet a (relayAll t1 es1 (SetTable.grown es1.size)).1 (relayAll t1 es1 (SetTable.grown es1.size)).2.1
        pure (some true)
      else pure (some true)) R E s := by
  apply wpAny_bind
  refine wpAny_storeSet_of here old ?_ (fits_of_scanBound few)
  have here1 := L2.store_at (es' := es1) (t' := t1) here old
  have same1 := Heap.SameBut.update s.heap a (Obj.putSet es1 t1)
  split
  · have perm := relayAll_perm t1 es1 (SetTable.grown es1.size)
    have fit2 := relayAll_fits t1 es1 (SetTable.grown es1.size)
    have ris2 := relayAll_ris t1 es1 (SetTable.grown es1.size)
    have led2 := relayAll_led t1 es1 (SetTable.grown es1.size)
    revert perm fit2 ris2 led2
    generalize relayAll t1 es1 (SetTable.grown es1.size) = z
    obtain ⟨es2, t2, gave⟩ := z
    intro perm fit2 ris2 led2
    have size : es2.size = es1.size := by rw [← Array.length_toList, perm.length_eq, Array.length_toList]
    have few2 : es2.size < scanBound := size ▸ few
    apply wpAny_bind
    apply free
    apply wpAny_bind
    refine wpAny_storeSet_of here1 rfl ?_ (fits_of_scanBound few2)
    have here2 := L2.store_at (es' := es2) (t' := t2) here1 rfl
    refine wpAny_pure (k _ (same1.trans (Heap.SameBut.update _ a _)) ⟨_, es2, _, t2, here2, size, ⟨ex, rfl, fun e inn => good e (perm.mem_iff.mp inn), (perm.map kS).nodup_iff.mpr nd, fun x => (mem x).trans (perm.map kS).mem_iff.symm, few2, fit2, ris2, ?_⟩⟩)
    exact led.imp id fun z => (show t2.led = t1.led from led2).trans z
  · exact wpAny_pure (k _ same1 ⟨_, es1, _, t1, here1, rfl, ⟨ex, rfl, good, nd, mem, few, fit, ris, led⟩⟩)
/-- a text added -/
theorem addT {x : Str} {u : Tok} {Q : Bool → Shared → Prop} (R : SetT w s.heap a S n) (room : n + 1 < scanBound) (k : ∀ h', Heap.SameBut a s.heap h' → SetT w h' a (fun y => S y || decide (y = x)) (if S x = true then n else n + 1) → Q (!S x) { s with heap := h' }) :
    wpAny (model P w) A (setAddHashed a (.str x u) (hashStr w x)) Q E s := by
  obtain ⟨o, es, ep, t, here, size, T⟩ := R
  have own : (PySem.strKind P w).is x (.str x u) = true := PySem.strKind_is P w x u
  have el := T.elems (P := P)
  have keyMem : ∀ y, y ∈ es.toList.map kS ↔ ∃ e ∈ es.toList, (PySem.strKind P w).is y e.2 = true := fun y => by
    rw [List.mem_map]
    constructor
    · rintro ⟨e, inn, q⟩
      exact ⟨e, inn, (good_key (T.good e inn) y).2 q⟩
    · rintro ⟨e, inn, q⟩
      exact ⟨e, inn, (good_key (T.good e inn) y).1 q⟩
  unfold setAddHashed setAddHashedIn
  apply wpAny_holding
  apply wpAny_bind
  refine wpAny_setState_of here T.da T.fit ?_
  dsimp only
  rw [byScan_of (show (Value.str x u).scannable = true from rfl) T.few el]
  simp only [↓reduceIte]
  unfold setAddByScan
  apply wpAny_bind
  apply wpAny_bind
  apply wpAny_rule
  apply wpAny_bind
  refine wpAny_setScan_of own here T.da T.fit el ?_
  cases find : List.findIdx? (fun e => (PySem.strKind P w).is x e.2) es.toList with
  | some j =>
    dsimp only
    obtain ⟨lt, is, _⟩ := List.findIdx?_eq_some_iff_getElem.mp find
    have yes : S x = true := (T.mem x).2 ((keyMem x).2 ⟨es.toList[j], List.getElem_mem lt, is⟩)
    have q := k s.heap (Heap.SameBut.refl a s.heap)
    rw [if_pos yes, yes] at q
    refine wpAny_pure (wpAny_pure (q ⟨o, es, ep, t, here, size, ⟨T.ex, T.da, T.good, T.nd, fun y => ?_, T.few, T.fit, T.ris, T.led⟩⟩))
    rw [Bool.or_eq_true, decide_eq_true_eq, ← T.mem y]
    exact ⟨fun z => z.elim id fun e => e ▸ yes, Or.inl⟩
  | none =>
    dsimp only
    have notIn : x ∉ es.toList.map kS := fun z => by
      obtain ⟨e, inn, q⟩ := (keyMem x).1 z
      have c := List.findIdx?_eq_none_iff.mp find e inn
      rw [q] at c
      cases c
    have no : S x = false := Bool.eq_false_iff.mpr fun q => notIn ((T.mem x).1 q)
    have free : ∀ (b : Bool) (s1 : Shared) (R : Unit → Shared → Prop), R () s1 → wpAny (model P w) A (match b with | true => rule "set.scan.the-table-gave-way" | false => pure ()) R E s1 := by
      intro b s1 R q
      cases b with
      | false => exact wpAny_pure q
      | true => exact wpAny_rule q
    have perm := layNew_perm t es (hashStr w x) (.str x u)
    have fit1 := layNew_fits t es (hashStr w x) (.str x u)
    have ris1 := layNew_ris t es (hashStr w x) (.str x u) T.ris
    have led1 := layNew_led t es (hashStr w x) (.str x u)
    revert perm fit1 ris1 led1
    generalize layNew t es (hashStr w x) (.str x u) = z
    obtain ⟨es1, t1, dum, gave⟩ := z
    intro perm fit1 ris1 led1
    dsimp only at perm fit1 ris1 led1 ⊢
    rw [Array.toList_push] at perm
    have cons : es1.toList.Perm ((hashStr w x, Value.str x u) :: es.toList) := perm.trans (List.perm_append_singleton _ _)
    have keys : (es1.toList.map kS).Perm (x :: es.toList.map kS) := cons.map kS
    have good : ∀ e ∈ es1.toList, ∃ y v, e = (hashStr w y, Value.str y v) := fun e inn => by
      rcases List.mem_cons.mp (cons.mem_iff.mp inn) with z | z
      · exact ⟨x, u, z⟩
      · exact T.good e z
    have nd : (es1.toList.map kS).Nodup := keys.nodup_iff.mpr (List.nodup_cons.mpr ⟨notIn, T.nd⟩)
    have mem : ∀ y, (S y || decide (y = x)) = true ↔ y ∈ es1.toList.map kS := fun y => by
      rw [Bool.or_eq_true, decide_eq_true_eq, T.mem y, keys.mem_iff, List.mem_cons]
      exact Or.comm
    have size1 : es1.size = n + 1 := by rw [← Array.length_toList, cons.length_eq, List.length_cons, Array.length_toList, size]
    have few : es1.size < scanBound := size1 ▸ room
    have led : w.params.followText "set-order" = true ∨ t1.led = true := T.led.imp id fun z => led1.trans z
    have fin : ∀ h', Heap.SameBut a s.heap h' → SetT w h' a (fun y => S y || decide (y = x)) es1.size → Q true { s with heap := h' } := fun h' sb r => by
      have q := k h' sb
      rw [no, if_neg Bool.false_ne_true] at q
      rw [size1] at r
      exact q r
    apply wpAny_bind
    apply free
    split
    · apply wpAny_bind
      rw [hashByValue_scannable 8 (show (Value.str x u).scannable = true from rfl)]
      apply wpAny_pure
      refine tailT free here T.da T.ex good nd mem few ?_ ?_ ?_ fun h' sb r => ?_
      · first | (split <;> first | exact fit1 | exact SetTable.fits_plain_off fit1) | exact fit1
      · first | (split <;> exact ris1) | exact ris1
      · first | (split <;> exact led) | exact led
      · exact wpAny_pure (fin h' sb r)
    · apply wpAny_bind
      apply wpAny_pure
      simp only [↓reduceIte]
      refine tailT free here T.da T.ex good nd mem few fit1 ris1 led fun h' sb r => ?_
      exact wpAny_pure (fin h' sb r)
/-- sorted(set of texts) -/
theorem sortT {Q : Value → Shared → Prop} (R : SetT w s.heap a S n) (hh : A.handled = none) (hn : n ≤ sizeLine)
    (k : ∀ s' p (out : Array Value) (c : Nat) (ys : List Str), (∀ b o, s.heap.get? b = some o → s'.heap.get? b = some o) → s'.gens = s.gens → s'.os = s.os → s.heap.objs.size ≤ p → s'.heap.get? p = some (seqObj "list" out c) → StrsAre out.toList ys → sortedS ys = true → ys.Nodup → (∀ y, y ∈ ys ↔ S y = true) → ys.length = n → Q (.ref p) s') :
    wpAny (model P w) A (call (.builtin "sorted") [.ref a]) Q E s := by
  obtain ⟨o, es, ep, t, here, size, T⟩ := R
  refine Calls.call_function_entry kind_sorted plain_sorted entry_sorted (args_sorted1 _) ?_
  unfold Builtin.«sorted»
  refine wpAny_bind (m := checkCount "sorted" 1 1 _) (wpAny_pure ?_)
  apply wpAny_bind
  refine collect_set (A := A.in1) hh ⟨o, here, T.ex.1, T.da⟩ T.fit T.few T.ris T.led fun s1 vs keep grown gens os perm => ?_
  have len : vs.length = n := by rw [perm.length_eq, List.length_map, Array.length_toList, size]
  have allS : ∀ l : List Ent, (∀ e ∈ l, ∃ x u, e = (hashStr w x, Value.str x u)) → StrsAre (l.map (·.2)) (l.map kS) := by
    intro l
    induction l with
    | nil => exact fun _ => .nil
    | cons e r ih =>
      intro g
      obtain ⟨x, u, rfl⟩ := g e List.mem_cons_self
      exact .cons x u (ih fun f inn => g f (List.mem_cons_of_mem _ inn))
  have ofPerm : ∀ {l1 l2 : List Value}, l1.Perm l2 → ∀ {ys : List Str}, StrsAre l2 ys → ∃ zs, StrsAre l1 zs ∧ zs.Perm ys := by
    intro l1 l2 pm
    induction pm with
    | nil => exact fun h => ⟨_, h, List.Perm.refl _⟩
    | cons v _ ih =>
      intro ys h
      cases h with
      | cons x u h =>
        obtain ⟨zs, h1, h2⟩ := ih h
        exact ⟨x :: zs, .cons x u h1, h2.cons x⟩
    | swap v v' l =>
      intro ys h
      cases h with
      | cons x u h =>
        cases h with
        | cons y u' h => exact ⟨_, .cons y u' (.cons x u h), List.Perm.swap _ _ _⟩
    | trans _ _ ih1 ih2 =>
      intro ys h
      obtain ⟨zs, h1, h2⟩ := ih2 h
      obtain ⟨ws, h3, h4⟩ := ih1 h1
      exact ⟨ws, h3, h4.trans h2⟩
  obtain ⟨zs, hS, pz⟩ := ofPerm perm (allS _ T.good)
  apply wpAny_bind
  refine wpAny_newList ?_ (by rw [len]; exact hn)
  have hL : (s1.heap.push (seqObj "list" vs.toArray 0)).get? s1.heap.objs.size = some (seqObj "list" vs.toArray 0) := Heap.get?_push_size _ rfl
  apply wpAny_bind
  apply wpAny_holding
  refine wpAny_call_entry slot_list_sort ⟨_, hL, rfl⟩ entry_list_sort ?_ (args_list_sort _)
  refine list_sort_treeKAny strKind_oneLt hL hS.keysOf (fun v1 v2 rest e => keyKind_strs (by rw [← e]; exact hS)) (by rw [len]; exact hn) fun st' hp hs => ⟨_, rfl, ?_⟩
  obtain ⟨ys, a1, a2, a3⟩ := sorted_out_str hS hp hs
  generalize (arrOf st').map (·.2) = out at a1
  obtain ⟨c, hc⟩ := sortedHeap_at (vs := vs) (out := out) hL
  have pk : ys.Perm (es.toList.map kS) := a2.trans pz
  refine wpAny_pure ⟨_, rfl, k _ s1.heap.objs.size out c ys (fun b u e => ?_) gens os grown hc a1 a3 (pk.nodup_iff.mpr T.nd) (fun y => by rw [pk.mem_iff, ← T.mem y]) ?_⟩
  · have q := keep b u e
    have lt := Heap.lt_size q
    show (sortedHeap (s1.heap.push (seqObj "list" vs.toArray 0)) s1.heap.objs.size vs out).get? b = some u
    rw [sortedHeap_old (Nat.ne_of_lt lt) (by rw [size_push']; exact Nat.lt_succ_of_lt lt)]
    exact Heap.get?_push_of_some _ q
  · rw [pk.length_eq, List.length_map, Array.length_toList, size]
end
end MXm
/-! {x for .. in ..} of texts, sorted of it. -/
namespace MXn
open PySem PySem.Spec PyProof.Rows L2 MXm PpSet
def SetTO (w : World) (a : Addr) (S : Str → Bool) (n : Nat) : HO := .ext fun h => SetT w h a S n
theorem obj_of {w : World} {P : Program} {H : Hp} {h : Heap} {a : Addr} {S : Str → Bool} {n : Nat} (R : SetT w h a S n) : ObjOk P w H h a (SetTO w a S n) := by
  have ⟨o, _, _, _, e, _⟩ := R
  exact ⟨R, ⟨o, e⟩, fun h1 h2 p k => SetT.at p k⟩
section
variable {X : Cx}
theorem of_obj {pins : List (Addr × Obj)} {σ : L2.St} {H : Hp} {s : Shared} {a : Addr} {S : Str → Bool} {n : Nat} (I : Inv X pins σ H s) (e : H a = some (SetTO X.w a S n)) : SetT X.w s.heap a S n := (I.hok a _ e).1
theorem add_call {pins : List (Addr × Obj)} {σ : L2.St} {H : Hp} {s : Shared} {E : Value → Shared → Prop} {D : Addr} {S : Str → Bool} {n : Nat} {x : Str} {u : Tok} {Q : Value → Shared → Prop} (I : Inv X pins σ H s) (e : H D = some (SetTO X.w D S n)) (room : n + 1 < scanBound)
    (k : ∀ s', Inv X pins σ (upd H D (SetTO X.w D (fun y => S y || decide (y = x)) (if S x = true then n else n + 1))) s' → Q .none s') : wpAny (model X.prog X.w) X.A (call (.builtin "set.add") [.ref D, .str x u]) Q E s := by
  have R := of_obj I e
  have ⟨o, es, ep, t, here, _, T⟩ := R
  refine wpAny_call_entry F.slot_set_add ⟨o, here, T.ex.1⟩ F.entry_set_add ?_ (F.args_set_add_2 _ _)
  unfold Builtin.«set.add» Builtin.Frozenset.oneOther
  simp only [List.isEmpty_nil, bind_assoc]
  unfold Builtin.Frozenset.addrOf setAdd
  apply wpAny_bind
  apply wpAny_pure
  try dsimp only
  apply wpAny_bind
  apply wpAny_pure
  try dsimp only
  apply wpAny_bind
  apply wpAny_holding
  apply wpAny_bind
  refine (PySem.strKind X.prog X.w).pyHash (k := x) (PySem.strKind_is _ _ x u) ?_
  refine addT (s := { s with toks := s.toks + 1 }) R room fun h' sb new => ?_
  show wpAny _ _ (ret Value.none) _ _ _
  have there : ∃ v, h'.get? D = some v := by
    have ⟨o', _, _, _, e', _⟩ := new
    exact ⟨o', e'⟩
  exact wpAny_pure ⟨_, rfl, k _ (I.write (e := D) (t' := s.toks + 1) (by rw [e]; trivial) (.inl rfl) (fun b v nb hv => (sb.2 b nb).trans hv) there (obj_of new))⟩
/-- the wish of such a comprehension -/
def tSt (w : World) (wi : TI) (g : TG) (tt : TT) (te : TE) (vs : List Nat) : TE := fun σ H Q => wi σ H fun J H1 => ∀ D, H1 D = none → ∃ W : Nat → Nat → Hp → Prop, (∃ m, W 0 m (upd H1 D (SetTO w D (fun _ => false) 0))) ∧ ∀ i m H, W i m H →
  (J.stop i H ∧ Q (.ref D) H) ∨ (J.go i H ∧ ∃ Nx : Hp → Prop, (∀ H', Nx H' → ∃ m', m' < m ∧ W (i + 1) m' H') ∧ ∀ x H', J.yld i H x H' → g x (wipe σ vs) H' fun σ2 H2 => wipe σ2 vs = wipe σ vs ∧ tt σ2 H2 fun b H3 =>
    if b = true then te σ2 H3 fun y H4 => ∃ (c : Str) (S : Str → Bool) (n : Nat), y = .str c ∧ H4 D = some (SetTO w D S n) ∧ n + 1 < scanBound ∧ Nx (upd H4 D (SetTO w D (fun z => S z || decide (z = c)) (if S c = true then n else n + 1))) else Nx H3)
theorem pe_st {elt tg iter : Expr} {ifs : List Expr} {scope : Scope} {own : List (PySem.Str × Nat)} {pos : Pos} {wi : TI} {g : TG} {tt : TT} {te : TE} (calm : X.calm = true) (nd : X.N.Nodup) (hi : PI X tg iter wi) (ok : BlkOk X.N X.env.scope scope own)
    (hg : ∀ (s : Shared) (H : Hp) (C : Addr) (cl : List (PySem.Str × Addr)) (fp : List Addr), PG (X.blk s H scope (compEnvC scope cl C X.env) fp) tg g) (ht : ∀ (s : Shared) (H : Hp) (C : Addr) (cl : List (PySem.Str × Addr)) (fp : List Addr), PTs (X.blk s H scope (compEnvC scope cl C X.env) fp) ifs tt)
    (he : ∀ (s : Shared) (H : Hp) (C : Addr) (cl : List (PySem.Str × Addr)) (fp : List Addr), PE (X.blk s H scope (compEnvC scope cl C X.env) fp) elt te) (hs : ∀ x, foldedSetIterable iter X.env x = pure x := by intro _; rfl) :
    PE X (.SetComp elt [⟨tg, iter, ifs, 0⟩] scope pos) (tSt X.w wi g tt te (own.map (·.2))) := by
  constructor
  intro pins s σ H Q I want
  rw [eval_SetComp]
  have cells : ∀ y ∈ scope.names, y.2 = .free → ∃ c, X.env.cells.lookup y.1 = some c := fun y hy e => by
    rcases ok.free y hy e with z | z
    · exact I.ok.has _ (.inl z)
    · exact I.ok.has _ (.inr z)
  refine wpAny_comprehension_free rfl hs (closure_ok cells) ok.kind (fun y hy e => by rw [ok.uniq y hy, e]) (thn (hi.run pins s σ H _ I want) fun xv s1 hx => thn hx fun itv s2 h2 => ?_)
  obtain ⟨it, fp, tn, J, H2, rfl, I2, T, at2, off2, goal⟩ := h2
  refine newSet_ok (newEnv_comp ?_)
  generalize eD : s2.heap.objs.size = D
  have nD : H2 D = none := I2.hok.fresh (Nat.le_of_eq eD)
  obtain ⟨W, ⟨m0, w0⟩, turn⟩ := goal D nD
  generalize e3 : ({ s2 with heap := s2.heap.push { cls := .type "set", dict := none, data := .set #[] 0 (.fresh 0 0 (!X.w.params.followText "set-order")) } } : Shared) = s3
  have heap3 : s3.heap = s2.heap.push { cls := .type "set", dict := none, data := .set #[] 0 (.fresh 0 0 (!X.w.params.followText "set-order")) } := by rw [← e3]
  have I3 : Inv X pins σ (upd H2 D (SetTO X.w D (fun _ => false) 0)) s3 := by
    subst e3
    subst eD
    exact I2.laid (t' := s2.toks) (fun b o e => Heap.get?_push_of_some _ e) (Nat.le_refl _) (obj_of (fresh X.w))
  have below : ∀ b ∈ fp, b < s2.heap.objs.size := fun b inn => by
    obtain ⟨o, e, _⟩ := T.obj _ _ at2 b inn
    exact Heap.lt_size e
  have off3 : ∀ b ∈ fp, FpOk X pins (upd H2 D (SetTO X.w D (fun _ => false) 0)) b ∧ b < s3.heap.objs.size := fun b inn => by
    have lt := below b inn
    constructor
    · refine ⟨?_, (off2 b inn).2⟩
      rw [upd_ne (by rw [← eD]; exact Nat.ne_of_lt lt)]
      exact (off2 b inn).1
    · rw [heap3, Heap.size_push]
      exact Nat.lt_succ_of_lt lt
  have at3 : tn 0 s3.heap := T.keep _ _ _ at2 fun b _ o e => by
    rw [heap3]
    exact Heap.get?_push_of_some _ e
  have I4 := block_start I3 ok nd off3
  have pg := hg s3 (upd H2 D (SetTO X.w D (fun _ => false) 0)) s3.heap.objs.size (cellsFrom (s3.heap.objs.size + 1) scope.names (cloFrom X.env.cells scope.names [])) fp
  have pt := ht s3 (upd H2 D (SetTO X.w D (fun _ => false) 0)) s3.heap.objs.size (cellsFrom (s3.heap.objs.size + 1) scope.names (cloFrom X.env.cells scope.names [])) fp
  have pe := he s3 (upd H2 D (SetTO X.w D (fun _ => false) 0)) s3.heap.objs.size (cellsFrom (s3.heap.objs.size + 1) scope.names (cloFrom X.env.cells scope.names [])) fp
  have off : ∀ b ∈ fp, (upd H2 D (SetTO X.w D (fun _ => false) 0)) b = none := fun b inn => (off3 b inn).1.1
  show codeAny _ _ (.compStart (.SetComp elt [⟨tg, iter, ifs, 0⟩] scope pos) 0 (.ref it) (.ref D) (compEnvC scope (cellsFrom (s3.heap.objs.size + 1) scope.names (cloFrom X.env.cells scope.names [])) s3.heap.objs.size X.env)) _ { s3 with heap := pushCells (s3.heap.push { cls := .type "dict", data := .dict #[] }) scope.names }
  generalize eC : compEnvC scope (cellsFrom (s3.heap.objs.size + 1) scope.names (cloFrom X.env.cells scope.names [])) s3.heap.objs.size X.env = ce at I4 pg pt pe ⊢
  have loc : ce.locals = s3.heap.objs.size := by rw [← eC]; rfl
  generalize upd H2 D (SetTO X.w D (fun _ => false) 0) = H3 at I3 I4 pg pt pe w0 off off3
  generalize e4 : ({ s3 with heap := pushCells (s3.heap.push { cls := .type "dict", data := .dict #[] }) scope.names } : Shared) = s4 at I4 ⊢
  have at4 : tn 0 s4.heap := T.keep _ _ _ at3 fun b _ o e => by
    rw [← e4]
    exact pushCells_keeps _ _ _ _ (Heap.get?_push_of_some _ e)
  have still : ∀ {τ : L2.St} {G : Hp} {s' : Shared}, Inv (X.blk s3 H3 scope ce fp) [] τ G s' → (∀ b ∈ fp, G b = none) → ∀ b ∈ fp, FpOk (X.blk s3 H3 scope ce fp) [] G b := by
    intro τ G s' I' no b inn
    exact ⟨no b inn, (I'.ok.exf b inn).1, I'.ok.exfs b inn, .inl inn, fun x c e => (I'.ok.exf b inn).2 x c e, fun p hp => absurd (show p ∈ ([] : List (Addr × Obj)) ++ [] from hp) (by simp)⟩
  refine codeAny_compStart_set ?_ (T.self X.A 0 _ _ _ at4 ?_)
  all_goals
    refine compLoopS_any (fun n s' => ∃ i G, Inv (X.blk s3 H3 scope ce fp) [] (wipe σ (own.map (·.2))) G s' ∧ tn i s'.heap ∧ (∀ b ∈ fp, G b = none) ∧ W i n G) ?_ m0 ⟨0, H3, I4, at4, off, w0⟩
    rintro n s5 ⟨i, G5, I5, at5, off5, w5⟩
    rcases turn i n G5 w5 with ⟨stop, done⟩ | ⟨go, Nx, next, step⟩
    · have ends := T.done (X.blk s3 H3 scope ce fp) rfl rfl rfl calm i [] s5 _ G5 (fun _ _ => False) I5 (still I5 off5) at5 stop
      refine thnF ends fun r s6 z => ?_
      obtain ⟨rfl, I6⟩ := z
      have I7 : Inv X pins σ G5 s6 := I3.call' (ch := fp) I6.os I6.base I6.hok I6.bare fun b inn => ⟨(off3 b inn).1.2.2.2.1, (off3 b inn).1.2.1, (off3 b inn).1.2.2.2.2.1, (off3 b inn).1.2.2.2.2.2⟩
      have nC : G5 s3.heap.objs.size = none := loc ▸ (show G5 ce.locals = none from I6.free)
      obtain ⟨m, hn, _⟩ := I6.loc
      have hn2 : s6.heap.Ns s3.heap.objs.size m := loc ▸ (show s6.heap.Ns ce.locals m from hn)
      refine ⟨m, hn2, fun h'' sb => ?_⟩
      obtain ⟨f0, f1, f2, f3, f4, f5⟩ := I3.fpOk (Nat.le_refl _) nC
      exact ⟨.ref D, G5, I7.turned (t' := s6.toks) (fun b o nb e => (sb.2 b nb).trans e) f0 f1 f3 f4 f5, rfl, done⟩
    · have more := T.item (X.blk s3 H3 scope ce fp) rfl rfl rfl calm i [] s5 _ G5 (fun _ _ => False) I5 (still I5 off5) at5 go
      refine thnF more fun r s6 z => ?_
      obtain ⟨u, rfl, h6⟩ := z
      refine thnF h6 fun _ s7 z => ?_
      obtain ⟨x, G7, I7, r7, y7, at7, off7⟩ := z
      have I8 := I7.pinned (still I7 off7) (T.obj _ _ at7)
      refine thnF (pg.run _ s7 _ G7 x u _ I8 r7 (step x G7 y7)) fun _ s8 z => ?_
      obtain ⟨τ, G8, J8, same, q8⟩ := z
      refine thnF (pt.run _ s8 τ G8 _ J8 q8) fun b s9 z => ?_
      obtain ⟨G9, J9, q9⟩ := z
      have over : ∀ {s' : Shared} {G' : Hp}, Inv (X.blk s3 H3 scope ce fp) ([] ++ pinsAt fp s7.heap) τ G' s' → Nx G' → ∃ m, m < n ∧ ∃ i G, Inv (X.blk s3 H3 scope ce fp) [] (wipe σ (own.map (·.2))) G s' ∧ tn i s'.heap ∧ (∀ b ∈ fp, G b = none) ∧ W i m G := by
        intro s' G' I' nx
        obtain ⟨m', lt, w'⟩ := next G' nx
        have kept : ∀ b ∈ fp, ∀ o, s7.heap.get? b = some o → s'.heap.get? b = some o ∧ G' b = none := fun b inn o e => by
          have z := I'.pin (b, o) (List.mem_append_right _ (List.mem_append_right _ (mem_pinsAt inn e)))
          exact ⟨z.1, z.2.1⟩
        have len : (wipe σ (own.map (·.2))).length = τ.length := by rw [← same, wipe_length]
        refine ⟨m', lt, i + 1, G', (I'.unpinned (pins := [])).weak len (fun j v e => ?_), T.keep _ _ _ at7 fun b inn o e => (kept b inn o e).1, fun b inn => ?_, w'⟩
        · rw [← same] at e
          exact (wipe_some e).1
        · obtain ⟨o, e, _⟩ := T.obj _ _ at7 b inn
          exact (kept b inn o e).2
      cases b with
      | false =>
        simp only [Bool.false_eq_true, if_false] at q9 ⊢
        exact over J9 q9
      | true =>
        simp only [if_true] at q9 ⊢
        refine thnF (pe.run _ s9 τ G9 _ J9 q9) fun v s10 z => ?_
        obtain ⟨y, G10, J10, r10, c, S0, n0, rfl, hD, room, nx⟩ := z
        obtain ⟨tk, rfl⟩ := (show ∃ t, v = Value.str c t from r10)
        exact add_call (X := X.blk s3 H3 scope ce fp) J10 hD room fun s11 J11 => over J11 nx
/-- sorted of such a set -/
def rSortT (w : World) : List V → Hp → VK → Prop := fun vs H Q => ∃ (a : Addr) (S : Str → Bool) (n : Nat), vs = [V.ref a] ∧ H a = some (SetTO w a S n) ∧ n ≤ sizeLine ∧
  ∀ (ys : List Str) (p : Addr), sortedS ys = true → ys.Nodup → (∀ y, y ∈ ys ↔ S y = true) → H p = none → Q (.ref p) (upd H p (.lst (ys.map V.str)))
theorem cr_sortT (calm : X.calm = true) : CallR X (.builtin "sorted") (rSortT X.w) := by
  intro pins s σ H vs us Q I r h
  obtain ⟨a, S, n, rfl, e, hn, k⟩ := h
  rw [Vals.ref1 r]
  refine sortT (of_obj I e) (I.ok.hd calm) hn fun s' p out c ys keep g o hp hg hi hs nd hm hl => ?_
  have len : (ys.map V.str).length ≤ sizeLine := by rw [List.length_map, hl]; exact hn
  have free : H p = none := I.hok.fresh hp
  have J : Inv X pins σ (upd H p (.lst (ys.map V.str))) { s with heap := s'.heap, gens := s'.gens, drawn := s'.drawn, toks := s'.toks } := by
    refine I.call (ch := []) (Un.laid keep hp free) (I.hok.laid keep hp ⟨len, out.toList, c, vals_of_strs hi, hg⟩) ?_ (fun _ z => nomatch z)
    rw [g]
    exact I.bare
  have whole : s' = { s with heap := s'.heap, gens := s'.gens, drawn := s'.drawn, toks := s'.toks } := by
    cases s'
    cases s
    cases o
    rfl
  rw [whole]
  exact ⟨.ref p, _, J, rfl, k ys p hs nd hm free⟩
end
end MXn
namespace MXn
open PySem PySem.Spec PyProof.Rows L2 MXm
/-- over a list that the block leaves as it is -/
theorem st_list {w : World} {K : PySem.W.Frag} {a : Addr} {xs : List V} {g : TG} {tt : TT} {te : TE} {vs : List Nat} {σ : L2.St} {H1 : Hp} {D : Addr} {R : Hp → Prop} (I : Nat → Hp → Prop) (start : I 0 (upd H1 D (SetTO w D (fun _ => false) 0))) (there : ∀ i H, i ≤ xs.length → I i H → SqL K H a xs)
    (turn : ∀ i x H, xs[i]? = some x → I i H → g x (wipe σ vs) H fun σ2 H2 => wipe σ2 vs = wipe σ vs ∧ tt σ2 H2 fun b H3 => if b = true then te σ2 H3 fun y H4 => ∃ (c : Str) (S : Str → Bool) (n : Nat), y = .str c ∧ H4 D = some (SetTO w D S n) ∧ n + 1 < scanBound ∧
      I (i + 1) (upd H4 D (SetTO w D (fun z => S z || decide (z = c)) (if S c = true then n else n + 1))) else I (i + 1) H3) (fin : ∀ H, I xs.length H → R H) :
    ∃ W : Nat → Nat → Hp → Prop, (∃ m, W 0 m (upd H1 D (SetTO w D (fun _ => false) 0))) ∧ ∀ i m H, W i m H → ((Itl K a).stop i H ∧ R H) ∨ ((Itl K a).go i H ∧ ∃ Nx : Hp → Prop, (∀ H', Nx H' → ∃ m', m' < m ∧ W (i + 1) m' H') ∧ ∀ x H', (Itl K a).yld i H x H' →
      g x (wipe σ vs) H' fun σ2 H2 => wipe σ2 vs = wipe σ vs ∧ tt σ2 H2 fun b H3 => if b = true then te σ2 H3 fun y H4 => ∃ (c : Str) (S : Str → Bool) (n : Nat), y = .str c ∧ H4 D = some (SetTO w D S n) ∧ n + 1 < scanBound ∧ Nx (upd H4 D (SetTO w D (fun z => S z || decide (z = c)) (if S c = true then n else n + 1))) else Nx H3) := by
  refine ⟨fun i m H => m = xs.length - i ∧ i ≤ xs.length ∧ I i H, ⟨_, by rw [Nat.sub_zero], Nat.zero_le _, start⟩, ?_⟩
  rintro i m H ⟨rfl, le, inv⟩
  have seq := there i H le inv
  rcases Nat.lt_or_ge i xs.length with lt | ge
  · refine Or.inr ⟨⟨xs, xs[i], seq, by simp [lt]⟩, I (i + 1), fun H' inv' => ⟨xs.length - (i + 1), by omega, rfl, lt, inv'⟩, ?_⟩
    rintro x H' ⟨rfl, y⟩
    exact turn i x _ (y xs seq) inv
  · obtain rfl : i = xs.length := Nat.le_antisymm le ge
    exact Or.inl ⟨⟨xs, seq, Nat.le_refl _⟩, fin H inv⟩
end MXn
namespace X6
open PySem PySem.Spec PyProof.Rows L2 LK MXn
/-- a loop's thread -/
def thrOf : PyData → Str
  | .tuple (.str s :: _) => s
  | _ => ⟨#[]⟩
/-- each is a pair with a thread ahead -/
def Pairs (ds : List PyData) : Prop := ∀ d ∈ ds, ∃ s p, d = .tuple [.str s, p]
def spNam (K : PySem.W.Frag) (C : Addr) : Sp := fun vs H Q _ => ∃ (x dx L : Addr) (fs : List (Str × V)) (xs : List V) (ds : List PyData), vs = [.ref x] ∧ H x = some (.ins C dx fs) ∧ Cls K C ∧ NoAttr K C "_loops" ∧ fs.lookup ("_loops" : Str) = some (.ref L) ∧ H L = some (.lst xs) ∧ DpAll K H xs ds ∧ Pairs ds ∧ ds.length ≤ 1000 ∧
  ∀ (ys : List Str) (p : Addr) (H' : Hp), sortedS ys = true → ys.Nodup → (∀ y, y ∈ ys ↔ y ∈ ds.map thrOf) → Same H H' → H p = none → H' p = some (.lst (ys.map V.str)) → Q (.ref p) H'
section
variable {P : Program} {w : World} {K : PySem.W.Frag} {mg : Str → Option Value} {base : Heap} {C : Addr}
end
end X6
/-! Sorted texts: two sorted lists without doubles and with the same members are one; what is left when equal neighbours are thrown out. -/
namespace LK
open PySem PySem.Spec PyProof.Rows L2
/-- a is not behind b -/
def leS (a b : Str) : Prop := ¬ b.cps.toList < a.cps.toList
theorem leS_trans {a b c : Str} (h : leS a b) (k : leS b c) : leS a c := List.not_lt.mpr (List.le_trans (List.not_lt.mp h) (List.not_lt.mp k))
theorem leS_anti {a b : Str} (h : leS a b) (k : leS b a) : a = b := by
  have e : a.cps.toList = b.cps.toList := List.le_antisymm (List.not_lt.mp h) (List.not_lt.mp k)
  obtain ⟨a⟩ := a
  obtain ⟨b⟩ := b
  exact congrArg Str.mk (Array.toList_inj.mp e)
theorem rising_pw : ∀ (r : List Str) (p : Str), risingS p r = true → (p :: r).Pairwise leS
  | [], p, _ => List.pairwise_singleton _ _
  | x :: r, p, h => by
    rw [risingS, Bool.and_eq_true] at h
    obtain ⟨h1, h2⟩ := h
    have t := rising_pw r x h2
    have px : leS p x := by
      unfold leS
      rw [ltCps_eq] at h1
      simpa using h1
    refine List.pairwise_cons.mpr ⟨fun y hy => ?_, t⟩
    rcases List.mem_cons.mp hy with rfl | hy
    · exact px
    · exact leS_trans px ((List.pairwise_cons.mp t).1 y hy)
theorem sorted_pw {l : List Str} (h : sortedS l = true) : l.Pairwise leS := by
  cases l with
  | nil => exact List.Pairwise.nil
  | cons x r => exact rising_pw r x h
theorem uniq_sorted : ∀ {l m : List Str}, l.Pairwise leS → m.Pairwise leS → l.Nodup → m.Nodup → (∀ x, x ∈ l ↔ x ∈ m) → l = m
  | [], [], _, _, _, _, _ => rfl
  | [], y :: m, _, _, _, _, h => absurd ((h y).2 List.mem_cons_self) List.not_mem_nil
  | x :: l, [], _, _, _, _, h => absurd ((h x).1 List.mem_cons_self) List.not_mem_nil
  | x :: l, y :: m, pl, pm, nl, nm, h => by
    obtain ⟨l1, l2⟩ := List.pairwise_cons.mp pl
    obtain ⟨m1, m2⟩ := List.pairwise_cons.mp pm
    obtain ⟨l3, l4⟩ := List.nodup_cons.mp nl
    obtain ⟨m3, m4⟩ := List.nodup_cons.mp nm
    have xy : x = y := by
      rcases List.mem_cons.mp ((h x).1 List.mem_cons_self) with e | e
      · exact e
      · rcases List.mem_cons.mp ((h y).2 List.mem_cons_self) with e' | e'
        · exact e'.symm
        · exact leS_anti (l1 y e') (m1 x e)
    subst xy
    refine congrArg (x :: ·) (uniq_sorted l2 m2 l4 m4 fun z => ?_)
    constructor
    · intro hz
      rcases List.mem_cons.mp ((h z).1 (List.mem_cons_of_mem _ hz)) with e | e
      · subst e
        exact absurd hz l3
      · exact e
    · intro hz
      rcases List.mem_cons.mp ((h z).2 (List.mem_cons_of_mem _ hz)) with e | e
      · subst e
        exact absurd hz m3
      · exact e
/-- item k stays where it is not its left neighbour -/
def newAt (zs : List Str) (k : Nat) : Bool := decide (k = 0) || !decide (zs[k]? = zs[k - 1]?)
/-- what is left of the first i -/
def leftS (zs : List Str) (i : Nat) : List Str := ((List.range i).filter (newAt zs)).filterMap (zs[·]?)
theorem left_succ {zs : List Str} {i : Nat} {x : Str} (h : zs[i]? = some x) : leftS zs (i + 1) = if newAt zs i = true then leftS zs i ++ [x] else leftS zs i := by
  unfold leftS
  rw [List.range_succ, List.filter_append, List.filterMap_append]
  by_cases q : newAt zs i = true
  · rw [if_pos q, List.filter_cons_of_pos q, List.filter_nil, List.filterMap_cons, h]
    rfl
  · rw [if_neg q, List.filter_cons_of_neg q, List.filter_nil, List.filterMap_nil, List.append_nil]
theorem left_len (zs : List Str) (i : Nat) : (leftS zs i).length ≤ i := by
  unfold leftS
  refine Nat.le_trans (List.length_filterMap_le _ _) (Nat.le_trans (List.length_filter_le _ _) ?_)
  rw [List.length_range]
  exact Nat.le_refl _
theorem left_sound {zs : List Str} (pw : zs.Pairwise leS) : ∀ i, i ≤ zs.length → (leftS zs i).Pairwise leS ∧ (leftS zs i).Nodup ∧ ∀ x, x ∈ leftS zs i ↔ x ∈ zs.take i
  | 0, _ => ⟨List.Pairwise.nil, List.nodup_nil, fun x => by simp [leftS]⟩
  | i + 1, hi => by
    obtain ⟨h1, h2, h3⟩ := left_sound pw i (Nat.le_of_succ_le hi)
    have at_ : zs[i]? = some zs[i] := List.getElem?_eq_getElem hi
    have tk : zs.take (i + 1) = zs.take i ++ [zs[i]] := by rw [List.take_add_one, at_]; rfl
    have before : ∀ y ∈ zs.take i, leS y zs[i] := fun y hy => by
      obtain ⟨j, hj, rfl⟩ := List.getElem_of_mem hy
      rw [List.length_take] at hj
      rw [List.getElem_take]
      exact List.pairwise_iff_getElem.mp pw j i (by omega) hi (by omega)
    rw [left_succ at_, tk]
    by_cases q : newAt zs i = true
    · rw [if_pos q]
      have fresh : zs[i] ∉ zs.take i := fun hy => by
        cases i with
        | zero => simp at hy
        | succ k =>
          have q' : ¬ zs[k + 1]? = zs[k]? := by simpa [newAt] using q
          have last : leS zs[k + 1] zs[k] := by
            obtain ⟨j, hj, e⟩ := List.getElem_of_mem hy
            rw [List.length_take] at hj
            rw [List.getElem_take] at e
            rw [← e]
            rcases Nat.lt_or_ge j k with lt | ge
            · exact List.pairwise_iff_getElem.mp pw j k (by omega) (by omega) lt
            · obtain rfl : j = k := by omega
              exact fun z => absurd z (List.lt_irrefl _)
          have e := leS_anti last (before _ (by
            have : zs[k] = (zs.take (k + 1))[k]'(by rw [List.length_take]; omega) := by rw [List.getElem_take]
            rw [this]
            exact List.getElem_mem _))
          exact q' (by rw [List.getElem?_eq_getElem hi, List.getElem?_eq_getElem (by omega : k < zs.length), e])
      refine ⟨List.pairwise_append.mpr ⟨h1, List.pairwise_singleton _ _, fun y hy z hz => ?_⟩, List.nodup_append.mpr ⟨h2, (by simp), fun y hy z hz => ?_⟩, fun x => ?_⟩
      · obtain rfl := List.mem_singleton.mp hz
        exact before y ((h3 y).1 hy)
      · obtain rfl := List.mem_singleton.mp hz
        exact fun e => fresh (e ▸ (h3 y).1 hy)
      · rw [List.mem_append, List.mem_append, h3 x]
    · rw [if_neg q]
      refine ⟨h1, h2, fun x => ?_⟩
      rw [List.mem_append, h3 x, List.mem_singleton]
      refine ⟨Or.inl, fun z => z.elim id fun e => ?_⟩
      cases i with
      | zero => exact absurd (by rfl : newAt zs 0 = true) q
      | succ k =>
        have q' : zs[k + 1]? = zs[k]? := by simpa [newAt] using q
        rw [List.getElem?_eq_getElem hi, List.getElem?_eq_getElem (by omega : k < zs.length)] at q'
        rw [e, Option.some.inj q']
        have : zs[k] = (zs.take (k + 1))[k]'(by rw [List.length_take]; omega) := by rw [List.getElem_take]
        rw [this]
        exact List.getElem_mem _
/-- the sorted texts without doubles -/
theorem left_all {zs ys : List Str} (h : sortedS zs = true) (h1 : sortedS ys = true) (h2 : ys.Nodup) (h3 : ∀ y, y ∈ ys ↔ y ∈ zs) : leftS zs zs.length = ys := by
  obtain ⟨a, b, c⟩ := left_sound (sorted_pw h) zs.length (Nat.le_refl _)
  refine uniq_sorted a (sorted_pw h1) b h2 fun x => ?_
  rw [c x, List.take_length, h3 x]
end LK
namespace X6
open PySem PySem.Spec PyProof.Rows L2 LK MXi
/-- a cloth at x with the loops ls, the fast ones ms -/
def IsC (K : PySem.W.Frag) (CC : Addr) (H : Hp) (x : Addr) (ls : List Lp) (ms : List Int) : Prop := ∃ (dx L G : Addr) (xs : List V), H x = some (.ins CC dx [("_loops", .ref L), ("_fast", .ref G)]) ∧ H L = some (.lst xs) ∧ DpAll K H xs (ls.map lpD) ∧ H G = some (.lst (ms.map V.int))
theorem IsC.same {K : PySem.W.Frag} {CC : Addr} {H H' : Hp} {x : Addr} {ls : List Lp} {ms : List Int} (h : IsC K CC H x ls ms) (s : Same H H') : IsC K CC H' x ls ms := by
  obtain ⟨dx, L, G, xs, h1, h2, h3, h4⟩ := h
  exact ⟨dx, L, G, xs, s _ _ h1, s _ _ h2, dps_same s h3, s _ _ h4⟩
def spTold (K : PySem.W.Frag) (CC : Addr) : Sp := fun vs H Q _ => ∃ (x : Addr) (u v : V) (ls : List Lp) (ns ms : List Int), vs = [.ref x, u, v] ∧ IsC K CC H x ls ms ∧ Dp K H u (.list (ls.map lpD)) ∧ Dp K H v (.list (ns.map PyData.int)) ∧ ms.Perm ns ∧ ms.Pairwise (· ≤ ·) ∧ ls.length ≤ 63 ∧ PyData.canLayAll0 (ls.map lpD) = true ∧ (∀ l ∈ ls, l.2.length ≤ 1000) ∧ ns.length ≤ 1000 ∧ ∀ H', Same H H' → Q (.bl true) H'
/-- the properties and len -/
structure Prp (P : Program) (w : World) (K : PySem.W.Frag) (mg : Str → Option Value) (base : Heap) (CC : Addr) where
  (pL pF pT gL gF gT gN : Addr)
  (fL fF fT fN : FuncData)
  aL : PropOf K CC "loops" pL gL
  aF : PropOf K CC "fast" pF gF
  aT : PropOf K CC "threads" pT gT
  aN : LenOf K CC gN
  bL : Binds K fL ["self"] []
  bF : Binds K fF ["self"] []
  bT : Binds K fT ["self"] []
  bN : Binds K fN ["self"] []
  oL : FnOk P w K mg base CX0 1 gL fL ["self"] (spCopy K CC "_loops")
  oF : FnOk P w K mg base CX0 1 gF fF ["self"] (spCopy K CC "_fast")
  oT : FnOk P w K mg base CX0 1 gT fT ["self"] (spNam K CC)
  oN : FnOk P w K mg base CX0 1 gN fN ["self"] (spSize K CC)
theorem lps_pairs (ls : List Lp) : Pairs (ls.map lpD) := fun d hd => by
  obtain ⟨l, _, rfl⟩ := List.mem_map.mp hd
  exact ⟨_, _, rfl⟩
theorem thr_lps (ls : List Lp) : (ls.map lpD).map thrOf = ls.map (·.1) := by
  rw [List.map_map]
  rfl
theorem few_ints : ∀ ns : List Int, fewAll (ns.map PyData.int) = true
  | [] => rfl
  | _ :: r => few_ints r
theorem few_strs : ∀ ns : List Str, fewAll (ns.map PyData.str) = true
  | [] => rfl
  | _ :: r => few_strs r
theorem lay_ints : ∀ ns : List Int, PyData.canLayAll0 (ns.map PyData.int) = true ∧ PyData.depthAll (ns.map PyData.int) = 0
  | [] => ⟨rfl, rfl⟩
  | n :: r => by
    obtain ⟨a, b⟩ := lay_ints r
    constructor
    · rw [List.map_cons, PyData.canLayAll0, a]
      rfl
    · simp only [List.map_cons, PyData.depthAll, PyData.depth, b]
      rfl
theorem lay_strs : ∀ ns : List Str, (∀ n ∈ ns, (PyData.str n).canLay0 = true) → PyData.canLayAll0 (ns.map PyData.str) = true ∧ PyData.depthAll (ns.map PyData.str) = 0
  | [], _ => ⟨rfl, rfl⟩
  | n :: r, h => by
    obtain ⟨a, b⟩ := lay_strs r fun m hm => h m (List.mem_cons_of_mem _ hm)
    constructor
    · rw [List.map_cons, PyData.canLayAll0, a, h n List.mem_cons_self]
      rfl
    · simp only [List.map_cons, PyData.depthAll, PyData.depth, b]
      rfl
theorem few_lp {l : Lp} (h : l.2.length ≤ 1000) : few (lpD l) = true := by
  have q : few (.tuple (l.2.map PyData.int)) = true := by
    unfold few
    rw [few_ints, Bool.and_true, List.length_map]
    exact decide_eq_true (by omega)
  show (decide (2 ≤ 1000000) && (few (.str l.1) && (few (.tuple (l.2.map PyData.int)) && true))) = true
  rw [q]
  rfl
theorem lps_all : ∀ {ls : List Lp}, (∀ l ∈ ls, l.2.length ≤ 1000) → fewAll (ls.map lpD) = true ∧ PyData.depthAll (ls.map lpD) ≤ 2
  | [], _ => ⟨rfl, Nat.zero_le _⟩
  | l :: r, h => by
    obtain ⟨a, c⟩ := lps_all (ls := r) fun m hm => h m (List.mem_cons_of_mem _ hm)
    obtain ⟨_, e⟩ := lay_ints l.2
    refine ⟨?_, ?_⟩
    · rw [List.map_cons, fewAll, a, few_lp (h l List.mem_cons_self)]
      rfl
    · simp only [List.map_cons, PyData.depthAll, lpD, PyData.depth, e]
      omega
theorem lay_thr {ls : List Lp} (h : PyData.canLayAll0 (ls.map lpD) = true) : ∀ n ∈ ls.map (·.1), (PyData.str n).canLay0 = true := fun n hn => by
  obtain ⟨l, hl, rfl⟩ := List.mem_map.mp hn
  have q := lay_mem h (List.mem_map.mpr ⟨l, hl, rfl⟩)
  have q2 : PyData.canLayAll0 [.str l.1, .tuple (l.2.map PyData.int)] = true := by simpa only [lpD, PyData.canLay0] using q
  exact lay_mem q2 List.mem_cons_self
theorem ints_back {K : PySem.W.Frag} {H : Hp} : ∀ {vs : List V} {ns : List Int}, DpAll K H vs (ns.map PyData.int) → vs = ns.map V.int
  | _, [], .nil => rfl
  | _, n :: r, .cons (.int _) t => by rw [ints_back t]; rfl
theorem dp_strs {K : PySem.W.Frag} {H : Hp} : ∀ ys : List Str, DpAll K H (ys.map V.str) (ys.map PyData.str)
  | [] => .nil
  | y :: r => .cons (.str y) (dp_strs r)
theorem same_two {H : Hp} {p : Addr} {o o' : HO} (h : H p = none) : Same H (L2.upd (L2.upd H p o) p o') := fun b u e => by
  rw [upd_ne (ne_of_none e h), upd_ne (ne_of_none e h)]
  exact e
theorem sz63 {n : Nat} (h : n ≤ 1000) : n < sizeLine := Nat.lt_of_le_of_lt h (by decide)
section
variable {P : Program} {w : World} {K : PySem.W.Frag} {mg : Str → Option Value} {base : Heap} {CC : Addr}
end
end X6
/-! Sets of ints that set(xs) makes: set(xs), in, not in, add. -/
namespace MXp
open PySem PySem.Spec PyProof.Rows L2
def SetI (P : Program) (w : World) (a : Addr) (S : Int → Bool) (n : Nat) : HO := .ext fun h => h.SetOf (intKind P w) a S n
theorem of_at {P : Program} {w : World} {h h' : Heap} {a : Addr} {S : Int → Bool} {n : Nat} (R : h.SetOf (intKind P w) a S n) (k : ∀ o, h.get? a = some o → h'.get? a = some o) : h'.SetOf (intKind P w) a S n := by
  obtain ⟨o, es, ep, t, e, r⟩ := R
  exact ⟨o, es, ep, t, k o e, r⟩
theorem si_obj {P Pr : Program} {w w' : World} {H : Hp} {h : Heap} {a : Addr} {S : Int → Bool} {n : Nat} (R : h.SetOf (intKind P w) a S n) : ObjOk Pr w' H h a (SetI P w a S n) := by
  have ⟨o, _, _, _, e, _⟩ := R
  exact ⟨R, ⟨o, e⟩, fun h1 h2 p k => of_at p k⟩
section
variable {X : Cx}
theorem si_get {pins : List (Addr × Obj)} {σ : L2.St} {H : Hp} {s : Shared} {a : Addr} {S : Int → Bool} {n : Nat} (I : Inv X pins σ H s) (e : H a = some (SetI X.prog X.w a S n)) : s.heap.SetOf (intKind X.prog X.w) a S n := (I.hok a _ e).1
/-- set(xs), xs a list of ints -/
def rSetOfI (K : PySem.W.Frag) (P : Program) (w : World) : List V → Hp → VK → Prop := fun vs H Q => ∃ (l : Addr) (ns : List Int), vs = [V.ref l] ∧ SqL K H l (ns.map V.int) ∧ ns.length ≤ 4000 ∧
  ∀ (p : Addr) (c : Nat), H p = none → c ≤ ns.length → Q (.ref p) (upd H p (SetI P w p (fun k => decide (k ∈ ns)) c))
theorem met_mem (ns : List Int) (k : Int) : (PyProof.Rows.firstMet (fun i => ns.getD i 0) ns.length).any (· == k) = decide (k ∈ ns) := by
  rw [PyProof.Rows.firstMet_any]
  have e : (List.range ns.length).map (fun i => ns.getD i 0) = ns := by
    apply List.ext_getElem?
    intro i
    rw [List.getElem?_map]
    by_cases h : i < ns.length
    · rw [List.getElem?_range h, List.getElem?_eq_getElem h, Option.map_some, List.getD_eq_getElem?_getD, List.getElem?_eq_getElem h]
      rfl
    · rw [List.getElem?_eq_none (by rw [List.length_range]; omega), List.getElem?_eq_none (by omega)]
      rfl
  rw [e, Bool.eq_iff_iff, List.any_eq_true]
  simp
theorem cr_setOfI (hc : X.calm = true) : CallR X (.type "set") (rSetOfI X.K X.prog X.w) := by
  intro pins s σ H vs us Q I r h
  obtain ⟨l, ns, rfl, hq, hl, q⟩ := h
  rw [Vals.ref1 r]
  obtain ⟨its, rv, pl, hz⟩ := I.list hq
  have hlen : its.toArray.size = ns.length := by rw [List.size_toArray, ← rv.length, List.length_map]
  refine call_set_list (I.ok.hd hc) pl.isList (by simpa using RZ.intsAre_vals rv) (by rw [hlen]; unfold scanBound; omega) fun h' tk hS hk => ?_
  rw [hlen] at hS
  have hS2 := PyProof.Rows.SetOf_congr hS (met_mem ns) rfl
  exact ⟨.ref s.heap.objs.size, upd H s.heap.objs.size (SetI X.prog X.w s.heap.objs.size (fun k => decide (k ∈ ns)) _), I.laid (t' := tk) (fun b o e => hk b o (Heap.lt_size e) e) (Nat.le_refl _) (si_obj hS2), rfl, q _ _ (I.hok.fresh (Nat.le_refl _)) (PyProof.Rows.firstMet_length_le _ _)⟩
def rIIn (P : Program) (w : World) : V → V → Hp → VK → Prop := fun x y H Q => ∃ k a S n, x = V.int k ∧ y = V.ref a ∧ H a = some (SetI P w a S n) ∧ Q (.bl (S k)) H
def rINot (P : Program) (w : World) : V → V → Hp → VK → Prop := fun x y H Q => ∃ k a S n, x = V.int k ∧ y = V.ref a ∧ H a = some (SetI P w a S n) ∧ Q (.bl (!S k)) H
theorem or_iin : OpR X (compareOp .In) (rIIn X.prog X.w) := by
  intro pins s σ H x y v u Q I rx ry h
  obtain ⟨k, a, S, n, rfl, rfl, ha, q⟩ := h
  obtain ⟨tk, rfl⟩ := rx
  cases ry
  exact wpAny_inSet_of (intKind_is _ _ _ _) rfl (si_get I ha) ⟨.bl (S k), H, I.tok _, rfl, q⟩
theorem or_inot : OpR X (compareOp .NotIn) (rINot X.prog X.w) := by
  intro pins s σ H x y v u Q I rx ry h
  obtain ⟨k, a, S, n, rfl, rfl, ha, q⟩ := h
  obtain ⟨tk, rfl⟩ := rx
  cases ry
  exact wpAny_notInSet_of (intKind_is _ _ _ _) rfl (si_get I ha) ⟨.bl (!S k), H, I.tok _, rfl, q⟩
/-- the same in a block, its row said by letters -/
theorem inI {P : Program} {w : World} (e : X.prog = P := by rfl) (e2 : X.w = w := by rfl) : OpR X (compareOp .In) (rIIn P w) := by
  subst e e2
  exact or_iin
theorem ninI {P : Program} {w : World} (e : X.prog = P := by rfl) (e2 : X.w = w := by rfl) : OpR X (compareOp .NotIn) (rINot P w) := by
  subst e e2
  exact or_inot
def rIAdd (P : Program) (w : World) : V → List V → Hp → VK → Prop := fun x xs H Q => ∃ (a : Addr) (k : Int) (S : Int → Bool) (n : Nat), x = V.ref a ∧ xs = [V.int k] ∧ H a = some (SetI P w a S n) ∧ n + 1 < scanBound ∧
  ∀ m, m ≤ n + 1 → Q .non (upd H a (SetI P w a (fun j => S j || decide (j = k)) m))
theorem mt_iadd : MtR X "set.add" (rIAdd X.prog X.w) := by
  intro pins s σ H x xs v us Q I rx rxs h
  obtain ⟨a, k, S, n, rfl, rfl, ha, room, q⟩ := h
  cases rx
  cases rxs with
  | cons ry rt =>
    cases rt
    obtain ⟨tk, rfl⟩ := ry
    have R := si_get I ha
    refine call_set_add (intKind_is _ _ _ _) rfl R room fun h' sb new => ?_
    have he : ∃ u, h'.get? a = some u := by
      have ⟨o, _, _, _, ho, _⟩ := new
      exact ⟨o, ho⟩
    refine ⟨.non, upd H a (SetI X.prog X.w a (fun j => S j || decide (j = k)) (if S k = true then n else n + 1)), I.write (e := a) (t' := s.toks + 1) (by rw [ha]; trivial) (.inl rfl) (fun b u hb hu => (sb.2 b hb).trans hu) he (si_obj new), rfl, q _ ?_⟩
    split <;> omega
def tIAdd (P : Program) (w : World) (to : TE) (t : TA) : TE := fun σ H Q => to σ H fun x H1 => (∃ a S n, x = V.ref a ∧ H1 a = some (SetI P w a S n)) ∧ t σ H1 fun xs H2 => rIAdd P w x xs H2 Q
theorem pe_iadd {o e : Expr} {es : List Expr} {to : TE} {t : TA} {apos cpos : Pos} (ho : PE X o to) (ha : PA X (e :: es) t)
    (hbase : attributeBase o "add" X.env (eval o X.env) = eval o X.env := by rfl)
    (hfew : ((backTo cpos (starEach (e :: es) X.env)).all (fun x => !x.1) && (backToKw cpos (keywordEach [] X.env)).all (fun x => x.1.isSome)
      && decide ((e :: es).length + ([] : List Keyword).length + (if ([] : List Keyword).isEmpty then 0 else 1) < 30)) = true := by rfl)
    (hline : (apos.endLine == cpos.line) = true := by rfl) (hs : starEach (e :: es) X.env = (false, eval e X.env) :: starEach es X.env := by rfl) (hplain : (backTo cpos (starEach es X.env)).any (·.1) = false := by rfl) :
    PE X (.Call (.Attribute o "add" apos) (e :: es) [] cpos) (tIAdd X.prog X.w to t) := by
  refine ⟨fun pins s σ H Q I h => ?_⟩
  refine wpAny_Call_method_late hbase hfew hline rfl (thn (ho.run pins s σ H _ I h) fun v s1 ⟨x, H1, I1, r1, ty, q1⟩ => ?_)
  obtain ⟨a, S, n, rfl, hka⟩ := ty
  have hS := si_get I1 hka
  cases r1
  refine ⟨"set", "set.add", F.plainAttrs_set, F.slot_set_add, F.type_set_add, hS.typeIs, hS.noDict, ?_⟩
  have hA := ha.run cpos pins s1 σ H1 _ I1 q1
  rw [hs] at hA ⊢
  refine Calls.callWith_builtin (by show (false || (backTo cpos (starEach es X.env)).any (·.1)) = false; rw [hplain] <;> rfl) (Calls.evalArgs_plain ?_)
  exact thn hA fun us s2 ⟨vs, H2, I2, r2, q2⟩ => mt_iadd pins s2 σ H2 (.ref a) vs (.ref a) us Q I2 rfl r2 q2
theorem cr_setK {P : Program} {w : World} {K : PySem.W.Frag} (hc : X.calm = true) (e : X.K = K := by rfl) (e1 : X.prog = P := by rfl) (e2 : X.w = w := by rfl) : CallR X (.type "set") (rSetOfI K P w) := by
  subst e e1 e2
  exact cr_setOfI hc
theorem pe_iaddK {P : Program} {w : World} {o e : Expr} {es : List Expr} {to : TE} {t : TA} {apos cpos : Pos} (ho : PE X o to) (ha : PA X (e :: es) t) (e1 : X.prog = P := by rfl) (e2 : X.w = w := by rfl)
    (hbase : attributeBase o "add" X.env (eval o X.env) = eval o X.env := by rfl)
    (hfew : ((backTo cpos (starEach (e :: es) X.env)).all (fun x => !x.1) && (backToKw cpos (keywordEach [] X.env)).all (fun x => x.1.isSome)
      && decide ((e :: es).length + ([] : List Keyword).length + (if ([] : List Keyword).isEmpty then 0 else 1) < 30)) = true := by rfl)
    (hline : (apos.endLine == cpos.line) = true := by rfl) (hs : starEach (e :: es) X.env = (false, eval e X.env) :: starEach es X.env := by rfl) (hplain : (backTo cpos (starEach es X.env)).any (·.1) = false := by rfl) :
    PE X (.Call (.Attribute o "add" apos) (e :: es) [] cpos) (tIAdd P w to t) := by
  subst e1 e2
  exact pe_iadd ho ha hbase hfew hline hs hplain
end
end MXp
/-! The program: check_lot of right lots, standing. -/
namespace X6
open PySem PySem.Spec PyProof.Rows L2 LK MXo MXi MXp
theorem lot_ok {n : Nat} {ns : List Int} (h : OkFs n ns) : lotFault (n : Int) (.list (ns.map PyData.int)) = none := by
  show ((List.range (ns.map PyData.int).length).find? (lotBad (n : Int) (ns.map PyData.int))).map (fun k : Nat => (k : Int)) = none
  rw [find_all fun k hk => ?_]
  · rfl
  rw [List.length_map] at hk
  have e : (ns.map PyData.int)[k]? = some (.int ns[k]) := by rw [List.getElem?_map, List.getElem?_eq_getElem hk]; rfl
  have r := h.2 _ (List.getElem_mem hk)
  rw [lotBad_int e (by rw [isNumD]; exact decide_eq_true r), ← List.map_take, hasInt_ints]
  refine decide_eq_false fun m => ?_
  obtain ⟨j, hj, ej⟩ := List.getElem_of_mem m
  rw [List.getElem_take] at ej
  rw [List.length_take] at hj
  exact absurd ej (List.pairwise_iff_getElem.mp h.1 j k (by omega) hk (by omega))
theorem tame_ints : ∀ ns : List Int, tameAll (ns.map PyData.int) = true
  | [] => rfl
  | n :: r => tame_ints r
/-- what is neither a list nor a set stays -/
def Pz (H H' : Hp) : Prop := ∀ b o, (∀ z, o ≠ .ext z) → (∀ xs, o ≠ .lst xs) → H b = some o → H' b = some o
theorem sqT_pz {K : PySem.W.Frag} {H H' : Hp} {a : Addr} {xs : List V} (e : Pz H H') (h : SqT K H a xs) : SqT K H' a xs := by
  rcases h with (h | ⟨o, h⟩) | h
  · exact .inl (.inl (e _ _ (fun _ q => by cases q) (fun _ q => by cases q) h))
  · exact .inl (.inr ⟨o, e _ _ (fun _ q => by cases q) (fun _ q => by cases q) h⟩)
  · exact .inr h
def spOkLot (K : PySem.W.Frag) : Sp := fun vs H Q _ => ∃ (a : Addr) (n : Nat) (ns : List Int), vs = [.ref a, .int n] ∧ SqL K H a (ns.map V.int) ∧ OkFs n ns ∧ ns.length ≤ 1000 ∧ ∀ H', Same H H' → Q .non H'
/-- the cloth's properties, and len -/
structure Pr2 (P : Program) (w : World) (K : PySem.W.Frag) (mg : Str → Option Value) (base : Heap) (CC : Addr) where
  (pL pF gL gF gN : Addr)
  (fL fF fN : FuncData)
  aL : PropOf K CC "loops" pL gL
  aF : PropOf K CC "fast" pF gF
  aN : LenOf K CC gN
  bL : Binds K fL ["self"] []
  bF : Binds K fF ["self"] []
  bN : Binds K fN ["self"] []
  oL : FnOk P w K mg base CX0 1 gL fL ["self"] (spCopy K CC "_loops")
  oF : FnOk P w K mg base CX0 1 gF fF ["self"] (spCopy K CC "_fast")
  oN : FnOk P w K mg base CX0 1 gN fN ["self"] (spSize K CC)
  cc : Cls K CC
  n1 : NoAttr K CC "_loops"
  n2 : NoAttr K CC "_fast"
/-- loops of few parents -/
def Thin (ls : List Lp) : Prop := ls.length ≤ 100 ∧ ∀ l ∈ ls, l.2.length ≤ 5
def spStd (K : PySem.W.Frag) (CC : Addr) : Sp := fun vs H Q _ => ∃ (x ca : Addr) (ls : List Lp) (ms cuts : List Int), vs = [.ref x, .ref ca] ∧ IsC K CC H x ls ms ∧ Thin ls ∧ ms.length ≤ 100 ∧ SqL K H ca (cuts.map V.int) ∧ OkFs ls.length cuts ∧
  ∀ (p : Addr) (H' : Hp), H p = none → Same H H' → H' p = some (.lst (nI (upL ls ms cuts ls.length).reverse)) → Q (.ref p) H'
section
variable {P : Program} {w : World} {K : PySem.W.Frag} {mg : Str → Option Value} {base : Heap} {CC : Addr}
end
end X6
/-! The program: run, fits, least_run. -/
namespace X6
open PySem PySem.Spec PyProof.Rows L2 LK MXo MXi MXp
def fitsD (ls : List Lp) (ms us ds : List Int) : Bool := us.all fun z => decide (z ∈ (upL ls ms ds ls.length).map fun k : Nat => (k : Int))
def spRun (K : PySem.W.Frag) (CC : Addr) : Sp := fun vs H Q _ => ∃ (x ca : Addr) (ls : List Lp) (ms cuts : List Int), vs = [.ref x, .ref ca] ∧ IsC K CC H x ls ms ∧ Thin ls ∧ ms.length ≤ 100 ∧ SqL K H ca (cuts.map V.int) ∧ OkFs ls.length cuts ∧
  ∀ (p : Addr) (H' : Hp), H p = none → Same H H' → H' p = some (.lst (nI (fallD ls ms cuts))) → Q (.ref p) H'
def spFits (K : PySem.W.Frag) (CC : Addr) : Sp := fun vs H Q _ => ∃ (x ua da : Addr) (ls : List Lp) (ms us ds : List Int), vs = [.ref x, .ref ua, .ref da] ∧ IsC K CC H x ls ms ∧ Thin ls ∧ ms.length ≤ 100 ∧ SqL K H ua (us.map V.int) ∧ SqL K H da (ds.map V.int) ∧ OkFs ls.length us ∧ OkFs ls.length ds ∧
  ∀ (H' : Hp), Same H H' → Q (.bl (fitsD ls ms us ds)) H'
def spLst (K : PySem.W.Frag) (CC : Addr) : Sp := fun vs H Q _ => ∃ (x ua da : Addr) (ls : List Lp) (ms us ds : List Int), vs = [.ref x, .ref ua, .ref da] ∧ IsC K CC H x ls ms ∧ Thin ls ∧ ms.length ≤ 100 ∧ SqL K H ua (us.map V.int) ∧ SqL K H da (ds.map V.int) ∧ OkFs ls.length us ∧ OkFs ls.length ds ∧
  (fitsD ls ms us ds = true → ∀ (p : Addr) (H' : Hp), H p = none → Same H H' → H' p = some (.lst (nI (fallD ls ms ds))) → Q (.ref p) H') ∧ (fitsD ls ms us ds = false → ∀ H', Same H H' → Q .non H')
section
variable {P : Program} {w : World} {K : PySem.W.Frag} {mg : Str → Option Value} {base : Heap} {CC : Addr}
end
end X6
/-! f(k = v, ..): a def called by keywords alone. -/
namespace MXq
open PySem PySem.Spec PyProof.Rows L2
section
variable {X : Cx} {CX : CXT} {k : Nat} {f : Addr} {fd : FuncData} {ps ks : List Str} {sp : Sp} {E : XK} {x : Str} {p pos : Pos} {kws : List Keyword} {tk : TA}
variable {g : List Value → List Value → List Value} {gV : List V → List V → List V}
theorem pe_callK0 (F : FnOk X.prog X.w X.K X.mg X.base CX k f fd ps sp) (hr : Room k X.A) (hg : Gl X x) (hm : X.mg x = some (.ref f)) (hk : PySem.W.keepIn X.K (.ref f) = true) (hb : KBinds X.K fd ps ks g gV) (hx : Passes CX X E)
    (hkw : PK X kws tk) (hall : (backToKw pos (keywordEach kws X.env)).all (·.1.isSome) = true := by rfl) (hks : (backToKw pos (keywordEach kws X.env)).filterMap (·.1) = ks := by rfl)
    (hdb : (x == ("__debug__" : Str)) = false := by decide)
    (hpl : ((backTo pos (starEach [] X.env)).any (·.1) || (backToKw pos (keywordEach kws X.env)).any (·.1.isNone)) = false := by rfl) :
    PE X (.Call (.Name x p) [] kws pos) (tCallK sp gV E tNil tk) := by
  refine ⟨fun pins s σ H Q I h => ?_⟩
  refine wpAny_Call_Name_kw (ld_glob I hg hm ?_ hdb)
  refine PySem.W.callWith_KW0 (h₀ := X.base) I.ok.mod.kin hk hall ?_ hpl
  refine thn (hkw.run pos pins s σ H _ I h) fun ws s2 ⟨zs, H2, I2, rz, q2⟩ => ⟨I2.kIn, ?_⟩
  rw [hks]
  exact run_fnk F hr hb hx I2 .nil rz q2
end
end MXq
/-! Data that str() may be asked of: no dicts, ints and texts that are not too long. -/
namespace LK
open PySem PySem.Spec PyProof.Rows L2 MXk
mutual
def neat : PyData → Bool
  | .none | .bool _ => true
  | .int i => decide (i.natAbs < 10 ^ 40)
  | .str x => decide (x.cps.size ≤ 40)
  | .list xs | .tuple xs => neatAll xs
  | .dict _ => false
def neatAll : List PyData → Bool
  | [] => true
  | x :: r => neat x && neatAll r
end
/-- neat, and not heavy -/
def Nice (d : PyData) : Prop := neat d = true ∧ d.weight ≤ 400
theorem log_of {i : Int} (h : i.natAbs < 10 ^ 40) : i.natAbs.log2 < 140 := by
  by_cases z : i.natAbs = 0
  · rw [z]
    decide
  · exact (Nat.log2_lt z).mpr (Nat.lt_of_lt_of_le h (by decide))
mutual
theorem neat_shows : ∀ d : PyData, neat d = true → d.showable = true ∧ d.hasDict = false ∧ d.intsShort 41 = true
  | .none, _ => ⟨rfl, rfl, rfl⟩
  | .bool _, _ => ⟨rfl, rfl, rfl⟩
  | .str _, _ => ⟨rfl, rfl, rfl⟩
  | .int i, h => by
    have q : i.natAbs < 10 ^ 40 := of_decide_eq_true h
    refine ⟨decide_eq_true (Nat.lt_trans (log_of q) (by decide)), rfl, decide_eq_true ?_⟩
    have e := int_text_length_le10 (k := 40) (by decide) q
    show (Str.ofString (toString i)).length ≤ 41
    rw [PySem.ofString_length]
    exact e
  | .list xs, h => by
    obtain ⟨a, b, c⟩ := neat_showsAll xs h
    exact ⟨a, b, c⟩
  | .tuple xs, h => by
    obtain ⟨a, b, c⟩ := neat_showsAll xs h
    exact ⟨a, b, c⟩
  | .dict _, h => Bool.noConfusion h
theorem neat_showsAll : ∀ xs : List PyData, neatAll xs = true → PyData.showableAll xs = true ∧ PyData.hasDictAll xs = false ∧ PyData.intsShortAll 41 xs = true
  | [], _ => ⟨rfl, rfl, rfl⟩
  | x :: r, h => by
    rw [neatAll, Bool.and_eq_true] at h
    obtain ⟨a, b, c⟩ := neat_shows x h.1
    obtain ⟨a', b', c'⟩ := neat_showsAll r h.2
    refine ⟨?_, ?_, ?_⟩
    · rw [PyData.showableAll, a, a']
      rfl
    · rw [PyData.hasDictAll, b, b']
      rfl
    · rw [PyData.intsShortAll, c, c']
      rfl
end
theorem shown_ok {d : PyData} (h : neat d = true) (lay : d.canLay0 = true) (w : d.weight ≤ 300000) : d.showable = true ∧ d.hasDict = false ∧ d.shown.length ≤ sizeLine := by
  obtain ⟨a, b, c⟩ := neat_shows d h
  refine ⟨a, b, ?_⟩
  have q := PyData.shown_le 41 (by decide) d (PyData.leavesShort_of_canLay0 41 d lay c)
  rw [sizeLine_eq]
  have q2 : (41 + 2) * d.weight ≤ 43 * 300000 := Nat.mul_le_mul_left _ w
  omega
/-- the text of a datum -/
def textD : PyData → Str
  | .str x => x
  | .none => "None"
  | .bool b => if b then "True" else "False"
  | .int i => Str.ofString (toString i)
  | d => d.shown
def rStrA (K : PySem.W.Frag) : List V → Hp → VK → Prop := fun xs H Q => ∃ (v : V) (d : PyData), xs = [v] ∧ Dp K H v d ∧ neat d = true ∧ d.canLay0 = true ∧ d.weight ≤ 300000 ∧ d.depth ≤ 20 ∧ Q (.str (textD d)) H
section
variable {X : Cx}
theorem cr_strA (hg : X.A.guards = some []) (hu : X.A.units + 64 < cLine) : CallR X (.type "str") (rStrA X.K) := by
  intro pins s σ H xs us Q I r h
  obtain ⟨v, d, rfl, hd, ne, lay, we, dp, q⟩ := h
  obtain ⟨s1, s2, s3⟩ := shown_ok ne lay we
  obtain ⟨u, e, ru⟩ := vals1 r
  subst e
  cases hd with
  | non =>
    cases (show u = Value.none from ru)
    exact PySem.P.str_of_none ⟨.str _, H, I.tok _, ⟨_, rfl⟩, q⟩
  | bl b =>
    cases (show u = Value.bool b from ru)
    exact PySem.P.str_of_bool ⟨.str _, H, I.tok _, ⟨_, rfl⟩, q⟩
  | int i => exact call_str_int pins s σ H _ _ Q I r ⟨i, rfl, of_decide_eq_true s1, q⟩
  | str x => exact SkE.call_str_str pins s σ H _ _ Q I r ⟨x, rfl, q⟩
  | lst sq al => exact cr_strD hg hu pins s σ H _ _ Q I r ⟨_, _, rfl, .lst sq al, s1, s2, dp, s3, q⟩
  | tup sq al => exact cr_strD hg hu pins s σ H _ _ Q I r ⟨_, _, rfl, .tup sq al, s1, s2, dp, s3, q⟩
end
end LK
namespace LK
open PySem
theorem nice_int {i : Int} (h : i.natAbs < 10 ^ 40) : Nice (.int i) := by
  refine ⟨decide_eq_true h, ?_⟩
  unfold PyData.weight
  split
  · exact Nat.zero_le _
  · have := log_of h
    omega
end LK
/-! What str() gives is a text that can be laid. -/
namespace LK
open PySem PySem.Spec PyProof.Rows L2
def OkT (x : Str) : Prop := ∀ c ∈ x.cps.toList, c < 0x110000
theorem okT_iff {x : Str} : PyData.strOk x = true ↔ OkT x := by
  unfold PyData.strOk OkT
  rw [Array.all_eq_true_iff_forall_mem]
  constructor
  · intro h c hc
    have := h c (Array.mem_toList_iff.mp hc)
    simpa using this
  · intro h c hc
    have := h c (Array.mem_toList_iff.mpr hc)
    simpa using this
theorem OkT.app {x y : Str} (a : OkT x) (b : OkT y) : OkT (x ++ y) := by
  intro c hc
  have e : (x ++ y).cps.toList = x.cps.toList ++ y.cps.toList := Array.toList_append
  rw [e, List.mem_append] at hc
  exact hc.elim (a c) (b c)
theorem char_lt (c : Char) : c.toNat < 0x110000 := by
  rcases c.valid with h | h
  · have : c.toNat < 0xD800 := h
    omega
  · exact h.2
theorem OkT.lit (s : String) : OkT (Str.ofString s) := by
  rw [Str.ofString_eq_toList]
  intro c hc
  obtain ⟨d, _, rfl⟩ := List.mem_map.mp (show c ∈ s.toList.map Char.toNat from hc)
  exact char_lt d
theorem ok_char {q c : Nat} (h : c < 0x110000) : ∀ e ∈ Builtin.Str.reprChar q c, e < 0x110000 := by
  have hex : ∀ n : Nat, ∀ e ∈ (let d := (Nat.toDigits 16 c).map Char.toNat; List.replicate (n - d.length) 48 ++ d), e < 0x110000 := by
    intro n e he
    dsimp only at he
    rcases List.mem_append.mp he with z | z
    · rw [(List.mem_replicate.mp z).2]
      decide
    · obtain ⟨d, _, rfl⟩ := List.mem_map.mp z
      exact char_lt d
  have two : ∀ a b : Nat, a < 0x110000 → b < 0x110000 → ∀ e ∈ [a, b], e < 0x110000 := by
    intro a b ha hb e he
    rcases List.mem_cons.mp he with rfl | he
    · exact ha
    · rw [List.mem_singleton.mp he]
      exact hb
  intro e he
  unfold Builtin.Str.reprChar at he
  dsimp only at he
  split at he
  · exact two _ _ (by decide) h e he
  split at he
  · exact two _ _ (by decide) (by decide) e he
  split at he
  · exact two _ _ (by decide) (by decide) e he
  split at he
  · exact two _ _ (by decide) (by decide) e he
  split at he
  · rw [List.mem_singleton.mp he]
    exact h
  split at he
  · rcases List.mem_append.mp he with z | z
    · exact two _ _ (by decide) (by decide) e z
    · exact hex 2 e z
  split at he
  · rcases List.mem_append.mp he with z | z
    · exact two _ _ (by decide) (by decide) e z
    · exact hex 4 e z
  · rcases List.mem_append.mp he with z | z
    · exact two _ _ (by decide) (by decide) e z
    · exact hex 8 e z
theorem ok_repr {x : Str} (h : OkT x) : OkT (reprText x) := by
  have q : reprQuote x < 0x110000 := by
    unfold reprQuote
    split <;> decide
  have fold : ∀ (l : List Nat) (acc : Array Nat), (∀ c ∈ l, c < 0x110000) → (∀ c ∈ acc.toList, c < 0x110000) → ∀ c ∈ (l.foldl (fun out c => out ++ (Builtin.Str.reprChar (reprQuote x) c).toArray) acc).toList, c < 0x110000 := by
    intro l
    induction l with
    | nil => exact fun acc _ ha => ha
    | cons d r ih =>
      intro acc hl ha
      refine ih _ (fun c hc => hl c (List.mem_cons_of_mem _ hc)) fun c hc => ?_
      rw [Array.toList_append, List.mem_append] at hc
      rcases hc with z | z
      · exact ha c z
      · exact ok_char (hl d List.mem_cons_self) c z
  intro c hc
  have e : (reprText x).cps.toList = (x.cps.toList.foldl (fun out c => out ++ (Builtin.Str.reprChar (reprQuote x) c).toArray) #[reprQuote x]).toList ++ [reprQuote x] := by
    unfold reprText
    rw [Array.toList_push, ← Array.foldl_toList]
  rw [e, List.mem_append] at hc
  rcases hc with z | z
  · exact fold _ _ h (fun c hc => by rw [List.mem_singleton.mp (show c ∈ [reprQuote x] from hc)]; exact q) c z
  · rw [List.mem_singleton.mp z]
    exact q
theorem ok_from : ∀ (ts : List Str) (k : Nat) (acc : Str), OkT acc → (∀ t ∈ ts, OkT t) → OkT (textFrom k acc ts)
  | [], _, _, ha, _ => ha
  | t :: r, k, acc, ha, h => by
    unfold textFrom
    exact ok_from r (k + 1) _ ((ha.app (OkT.lit _)).app (h t List.mem_cons_self)) fun u hu => h u (List.mem_cons_of_mem _ hu)
theorem ok_join : ∀ ts : List Str, (∀ t ∈ ts, OkT t) → OkT (Str.join ", " ts)
  | [], _ => fun c hc => absurd hc (by simp [Str.join, Str.empty])
  | [x], h => h x List.mem_cons_self
  | x :: y :: r, h => by
    unfold Str.join
    exact ((h x List.mem_cons_self).app (OkT.lit _)).app (ok_join (y :: r) fun u hu => h u (List.mem_cons_of_mem _ hu))
mutual
theorem ok_shown : ∀ d : PyData, d.canLay0 = true → OkT d.shown
  | .none, _ => OkT.lit _
  | .bool b, _ => by
    unfold PyData.shown
    split <;> exact OkT.lit _
  | .int i, _ => OkT.lit _
  | .str x, h => ok_repr (okT_iff.mp h)
  | .list xs, h => by
    show OkT (textFrom 0 "[" (PyData.shownAll xs) ++ _)
    exact (ok_from _ _ _ (OkT.lit _) (ok_shownAll xs h)).app (OkT.lit _)
  | .tuple xs, h => by
    show OkT (_ ++ Str.join ", " (PyData.shownAll xs) ++ _)
    exact ((OkT.lit _).app (ok_join _ (ok_shownAll xs h))).app (OkT.lit _)
  | .dict _, h => Bool.noConfusion h
theorem ok_shownAll : ∀ xs : List PyData, PyData.canLayAll0 xs = true → ∀ t ∈ PyData.shownAll xs, OkT t
  | [], _, t, ht => absurd ht List.not_mem_nil
  | x :: r, h, t, ht => by
    rw [PyData.canLayAll0, Bool.and_eq_true] at h
    rcases List.mem_cons.mp ht with rfl | ht
    · exact ok_shown x h.1
    · exact ok_shownAll r h.2 t ht
end
theorem ok_text {d : PyData} (h : d.canLay0 = true) : PyData.strOk (textD d) = true := by
  refine okT_iff.mpr ?_
  cases d with
  | str x => exact okT_iff.mp h
  | none => exact OkT.lit _
  | bool b =>
    unfold textD
    dsimp only
    split <;> exact OkT.lit _
  | int i => exact OkT.lit _
  | list xs => exact ok_shown _ h
  | tuple xs => exact ok_shown _ h
  | dict k => exact Bool.noConfusion h
end LK
/-! law: what is handed in, and what becomes of it. -/
namespace X6
open PySem PySem.Spec PyProof.Rows L2 LK
/-- data that all may be asked of -/
structure GoodD (d : PyData) : Prop where
  tm : tame d = true
  lay : d.canLay0 = true
  dp : d.depth ≤ 5
  ne : neat d = true
  wt : d.weight ≤ 60000
/-- n items at most -/
structure Items (n : Nat) (ds : List PyData) : Prop where
  ln : ds.length ≤ n
  tm : tameAll ds = true
  lay : PyData.canLayAll0 ds = true
  dp : PyData.depthAll ds ≤ 2
  ne : neatAll ds = true
  wt : ∀ d ∈ ds, d.weight ≤ 400
theorem wt_all : ∀ {ds : List PyData}, (∀ d ∈ ds, d.weight ≤ 400) → PyData.weightAll ds ≤ ds.length * 401
  | [], _ => Nat.le_refl _
  | d :: r, h => by
    have h1 := h d List.mem_cons_self
    have h2 := wt_all (ds := r) fun e he => h e (List.mem_cons_of_mem _ he)
    simp only [PyData.weightAll, List.length_cons]
    omega
theorem Items.good {n : Nat} {ds : List PyData} (h : Items n ds) (hn : n ≤ 100) : GoodD (.list ds) ∧ GoodD (.tuple ds) := by
  have ln := h.ln
  have w : PyData.weightAll ds ≤ 60000 := Nat.le_trans (wt_all h.wt) (Nat.le_trans (Nat.mul_le_mul_right _ (Nat.le_trans ln hn)) (by decide))
  have t : (decide (ds.length ≤ 1000) && tameAll ds) = true := by rw [h.tm, Bool.and_true]; exact decide_eq_true (by omega)
  have dp := h.dp
  refine ⟨⟨t, h.lay, ?_, h.ne, w⟩, ⟨t, h.lay, ?_, h.ne, w⟩⟩ <;> (simp only [PyData.depth]; omega)
theorem tameAll_app : ∀ {a b : List PyData}, tameAll a = true → tameAll b = true → tameAll (a ++ b) = true
  | [], _, _, h => h
  | x :: r, b, h, k => by
    rw [tameAll, Bool.and_eq_true] at h
    rw [List.cons_append, tameAll, h.1, tameAll_app h.2 k]
    rfl
theorem layAll_app : ∀ {a b : List PyData}, PyData.canLayAll0 a = true → PyData.canLayAll0 b = true → PyData.canLayAll0 (a ++ b) = true
  | [], _, _, h => h
  | x :: r, b, h, k => by
    rw [PyData.canLayAll0, Bool.and_eq_true] at h
    rw [List.cons_append, PyData.canLayAll0, h.1, layAll_app h.2 k]
    rfl
theorem neatAll_app : ∀ {a b : List PyData}, neatAll a = true → neatAll b = true → neatAll (a ++ b) = true
  | [], _, _, h => h
  | x :: r, b, h, k => by
    rw [neatAll, Bool.and_eq_true] at h
    rw [List.cons_append, neatAll, h.1, neatAll_app h.2 k]
    rfl
theorem dpAll_app : ∀ {n : Nat} {a b : List PyData}, PyData.depthAll a ≤ n → PyData.depthAll b ≤ n → PyData.depthAll (a ++ b) ≤ n
  | _, [], _, _, h => h
  | n, x :: r, b, h, k => by
    simp only [PyData.depthAll] at h
    simp only [List.cons_append, PyData.depthAll]
    have := dpAll_app (n := n) (a := r) (b := b) (by omega) k
    omega
theorem tameAll_iff {ds : List PyData} : tameAll ds = true ↔ ∀ d ∈ ds, tame d = true := by
  induction ds with
  | nil => exact ⟨fun _ d hd => absurd hd List.not_mem_nil, fun _ => rfl⟩
  | cons x r ih => rw [tameAll, Bool.and_eq_true, ih]; simp
theorem layAll_iff {ds : List PyData} : PyData.canLayAll0 ds = true ↔ ∀ d ∈ ds, d.canLay0 = true := by
  induction ds with
  | nil => exact ⟨fun _ d hd => absurd hd List.not_mem_nil, fun _ => rfl⟩
  | cons x r ih => rw [PyData.canLayAll0, Bool.and_eq_true, ih]; simp
theorem neatAll_iff {ds : List PyData} : neatAll ds = true ↔ ∀ d ∈ ds, neat d = true := by
  induction ds with
  | nil => exact ⟨fun _ d hd => absurd hd List.not_mem_nil, fun _ => rfl⟩
  | cons x r ih => rw [neatAll, Bool.and_eq_true, ih]; simp
theorem dpAll_iff {n : Nat} {ds : List PyData} : PyData.depthAll ds ≤ n ↔ ∀ d ∈ ds, d.depth ≤ n := by
  induction ds with
  | nil => exact ⟨fun _ d hd => absurd hd List.not_mem_nil, fun _ => Nat.zero_le _⟩
  | cons x r ih =>
    simp only [PyData.depthAll, List.mem_cons, forall_eq_or_imp]
    rw [← ih]
    omega
theorem Items.iff {n : Nat} {ds : List PyData} : Items n ds ↔ ds.length ≤ n ∧ ∀ d ∈ ds, tame d = true ∧ d.canLay0 = true ∧ d.depth ≤ 2 ∧ Nice d := by
  constructor
  · intro h
    exact ⟨h.ln, fun d hd => ⟨tameAll_iff.mp h.tm d hd, layAll_iff.mp h.lay d hd, dpAll_iff.mp h.dp d hd, neatAll_iff.mp h.ne d hd, h.wt d hd⟩⟩
  · rintro ⟨h1, h2⟩
    exact ⟨h1, tameAll_iff.mpr fun d hd => (h2 d hd).1, layAll_iff.mpr fun d hd => (h2 d hd).2.1, dpAll_iff.mpr fun d hd => (h2 d hd).2.2.1, neatAll_iff.mpr fun d hd => (h2 d hd).2.2.2.1, fun d hd => (h2 d hd).2.2.2.2⟩
/-- some of the items, one more in between -/
theorem Items.bend {n k j : Nat} {ds : List PyData} {d : PyData} (h : Items n ds) (kj : k ≤ j) (t : tame d = true) (l : d.canLay0 = true) (p : d.depth ≤ 2) (c : Nice d) : Items (n + 1) (ds.take k ++ [d] ++ ds.drop j) := by
  obtain ⟨h1, h2⟩ := Items.iff.mp h
  refine Items.iff.mpr ⟨?_, fun e he => ?_⟩
  · simp only [List.length_append, List.length_take, List.length_drop, List.length_cons, List.length_nil]
    omega
  · rw [List.mem_append, List.mem_append] at he
    rcases he with (he | he) | he
    · exact h2 e (List.mem_of_mem_take he)
    · rw [List.mem_singleton.mp he]
      exact ⟨t, l, p, c⟩
    · exact h2 e (List.mem_of_mem_drop he)
theorem due_none {d e : PyData} (h : dueD d e = none) : loopsFault d = none := by
  unfold dueD at h
  split at h
  · cases h
  · assumption
/-- a right list of loops -/
theorem valid_lps {ds : List PyData} (h : loopsFault (.list ds) = none) : ∃ ls : List Lp, ds = ls.map lpD := by
  have bad : ∀ k < ds.length, loopBad ds k = false := by
    unfold loopsFault at h
    have h' : (List.range ds.length).find? (loopBad ds) = none := by
      cases q : (List.range ds.length).find? (loopBad ds) with
      | none => rfl
      | some k =>
        dsimp only at h
        rw [q] at h
        cases h
    intro k hk
    simpa using List.find?_eq_none.mp h' k (List.mem_range.mpr hk)
  have each : ∀ d ∈ ds, ∃ l : Lp, d = lpD l := by
    intro d hd
    obtain ⟨k, hk, rfl⟩ := List.getElem_of_mem hd
    have q := bad k hk
    unfold loopBad at q
    rw [List.getElem?_eq_getElem hk] at q
    have q2 : isLoopD k ds[k] = true := by simpa using q
    generalize ds[k] = d at q2
    unfold isLoopD at q2
    split at q2
    · rename_i a b
      rw [Bool.and_eq_true] at q2
      obtain ⟨q3, q4⟩ := q2
      cases a with
      | str z =>
        cases b with
        | tuple es =>
          unfold isParD at q4
          rw [Bool.and_eq_true] at q4
          have nums : ∀ es : List PyData, es.all (isNumD k) = true → ∃ ns : List Int, es = ns.map PyData.int := by
            intro es
            induction es with
            | nil => exact fun _ => ⟨[], rfl⟩
            | cons e r ih =>
              intro h
              rw [List.all_cons, Bool.and_eq_true] at h
              obtain ⟨ns, rfl⟩ := ih h.2
              cases e with
              | int i => exact ⟨i :: ns, rfl⟩
              | _ => exact Bool.noConfusion h.1
          obtain ⟨ns, rfl⟩ := nums es q4.1
          exact ⟨(z, ns), rfl⟩
        | _ => exact Bool.noConfusion q4
      | _ => exact Bool.noConfusion q3
    · cases q2
  clear h bad
  induction ds with
  | nil => exact ⟨[], rfl⟩
  | cons d r ih =>
    obtain ⟨l, rfl⟩ := each d List.mem_cons_self
    obtain ⟨ls, rfl⟩ := ih fun e he => each e (List.mem_cons_of_mem _ he)
    exact ⟨l :: ls, rfl⟩
theorem lps_short {ls : List Lp} (h : tameAll (ls.map lpD) = true) : ∀ l ∈ ls, l.2.length ≤ 1000 := fun l hl => by
  have q := tameAll_iff.mp h (lpD l) (List.mem_map.mpr ⟨l, hl, rfl⟩)
  unfold lpD tame at q
  rw [Bool.and_eq_true] at q
  have q2 := tameAll_iff.mp q.2 (.tuple (l.2.map PyData.int)) (by simp)
  unfold tame at q2
  rw [Bool.and_eq_true, List.length_map] at q2
  exact of_decide_eq_true q2.1
/-- no more than fit -/
theorem okfs_len {n : Nat} {fs : List Int} (h : OkFs n fs) : fs.length ≤ n := by
  have nd : (fs.map Int.toNat).Nodup := by
    refine List.Pairwise.map _ ?_ (List.Pairwise.and_mem.mp h.1)
    rintro a b ⟨ha, hb, ne⟩ e
    have := h.2 a ha
    have := h.2 b hb
    exact ne (by omega)
  have sub : (fs.map Int.toNat) ⊆ List.range n := fun x hx => by
    obtain ⟨a, ha, rfl⟩ := List.mem_map.mp hx
    have := h.2 a ha
    exact List.mem_range.mpr (by omega)
  have := sub_len _ _ nd sub
  rwa [List.length_map, List.length_range] at this
theorem okfs_items {n : Nat} {fs : List Int} (h : OkFs n fs) (hn : n ≤ 1000) : Items n (fs.map PyData.int) := by
  refine Items.iff.mpr ⟨by rw [List.length_map]; exact okfs_len h, fun d hd => ?_⟩
  obtain ⟨i, hi, rfl⟩ := List.mem_map.mp hd
  have := h.2 i hi
  exact ⟨rfl, rfl, Nat.zero_le _, nice_int (Nat.lt_of_le_of_lt (show i.natAbs ≤ 1000 by omega) (by decide))⟩
theorem lps_items {ys : List Str} {ls : List Lp} {n : Nat} (h : OkLs ys ls) (hy : ∀ y ∈ ys, Yn y) (hn : ls.length ≤ n) (n1 : n ≤ 1000) : Items n (ls.map lpD) := by
  refine Items.iff.mpr ⟨by rw [List.length_map]; exact hn, fun d hd => ?_⟩
  obtain ⟨l, hl, rfl⟩ := List.mem_map.mp hd
  obtain ⟨k, hk, rfl⟩ := List.getElem_of_mem hl
  obtain ⟨h1, h2, h3, h4⟩ := h k _ (List.getElem?_eq_getElem hk)
  obtain ⟨y1, y2, y3⟩ := hy _ h1
  have small : ∀ p ∈ (ls[k]).2, p.natAbs ≤ 1000 := fun p hp => by
    have := h4 p hp
    omega
  have nums : ∀ ns : List Int, (∀ p ∈ ns, p.natAbs ≤ 1000) → tameAll (ns.map PyData.int) = true ∧ neatAll (ns.map PyData.int) = true ∧ PyData.weightAll (ns.map PyData.int) ≤ ns.length * 20 := by
    intro ns
    induction ns with
    | nil => exact fun _ => ⟨rfl, rfl, Nat.le_refl _⟩
    | cons p r ih =>
      intro h
      obtain ⟨a, b, c⟩ := ih fun q hq => h q (List.mem_cons_of_mem _ hq)
      have hp := h p List.mem_cons_self
      have wp : (PyData.int p).weight ≤ 11 := by
        unfold PyData.weight
        split
        · exact Nat.zero_le _
        · rename_i nz
          have : p.natAbs.log2 < 10 := (Nat.log2_lt (by simpa using nz)).mpr (by omega)
          omega
      refine ⟨by rw [List.map_cons, tameAll, a]; rfl, ?_, ?_⟩
      · rw [List.map_cons, neatAll, b, Bool.and_true]
        exact decide_eq_true (Nat.lt_of_le_of_lt hp (by decide))
      · simp only [List.map_cons, PyData.weightAll, List.length_cons]
        omega
  obtain ⟨a, b, c⟩ := nums _ small
  obtain ⟨d1, d2⟩ := lay_ints (ls[k]).2
  have sz : (ls[k]).1.cps.size ≤ 8 := y2
  refine ⟨?_, ?_, ?_, ?_, ?_⟩
  · simp only [lpD, tame, tameAll, a, List.length_cons, List.length_nil, List.length_map, Bool.and_true, Bool.and_eq_true, decide_eq_true_eq]
    exact ⟨by omega, by omega⟩
  · simp only [lpD, PyData.canLay0, PyData.canLayAll0, d1, Bool.and_true]
    refine okT_iff.mpr fun c hc => ?_
    have := y3 c hc
    omega
  · simp only [lpD, PyData.depth, PyData.depthAll, d2]
    omega
  · simp only [lpD, neat, neatAll, b, Bool.and_true]
    exact decide_eq_true (by omega)
  · simp only [lpD, PyData.weight, PyData.weightAll]
    omega
end X6
/-! What is drawn is a right cloth. -/
namespace X6
open PySem PySem.Spec PyProof.Rows L2 LK MXo MXi MXp MXq
theorem rise_ints {ns : List Int} (h : ns.Pairwise (· < ·)) : rise (ns.map PyData.int) = true := by
  unfold rise
  rw [List.all_eq_true]
  intro i hi
  rw [List.length_map] at hi
  have hi' := List.mem_range.mp hi
  have a : (ns.map PyData.int)[i]? = some (.int ns[i]) := by rw [List.getElem?_map, List.getElem?_eq_getElem (by omega)]; rfl
  have b : (ns.map PyData.int)[i + 1]? = some (.int ns[i + 1]) := by rw [List.getElem?_map, List.getElem?_eq_getElem (by omega)]; rfl
  have lt := List.pairwise_iff_getElem.mp h i (i + 1) (by omega) (by omega) (by omega)
  unfold ltAt
  rw [a, b]
  exact decide_eq_true lt
theorem loop_ok {ys : List Str} {ls : List Lp} (h : OkLs ys ls) (hy : ∀ y ∈ ys, Yn y) {k : Nat} {l : Lp} (e : ls[k]? = some l) : isLoopD (k : Int) (lpD l) = true := by
  obtain ⟨h1, h2, h3, h4⟩ := h k l e
  obtain ⟨y1, y2, y3⟩ := hy _ h1
  show (isThrD (.str l.1) && isParD (k : Int) (.tuple (l.2.map PyData.int))) = true
  rw [Bool.and_eq_true]
  refine ⟨?_, ?_⟩
  · show (decide (1 ≤ l.1.length ∧ l.1.length ≤ 8) && l.1.cps.toList.all fun c => decide (97 ≤ c ∧ c ≤ 122)) = true
    rw [decide_eq_true ⟨y1, y2⟩, Bool.true_and, List.all_eq_true]
    exact fun c hc => decide_eq_true (y3 c hc)
  · show ((l.2.map PyData.int).all (isNumD (k : Int)) && rise (l.2.map PyData.int)) = true
    rw [rise_ints h2, Bool.and_true, List.all_map, List.all_eq_true]
    exact fun p hp => decide_eq_true (h4 p hp)
theorem due_ok {ys : List Str} {ls : List Lp} {fs : List Int} (h : OkLs ys ls) (hy : ∀ y ∈ ys, Yn y) (hf : OkFs ls.length fs) : dueD (.list (ls.map lpD)) (.list (fs.map PyData.int)) = none := by
  have e : loopsFault (.list (ls.map lpD)) = none := by
    show ((List.range (ls.map lpD).length).find? (loopBad (ls.map lpD))).map (fun k : Nat => (k : Int)) = none
    rw [find_all fun k hk => ?_]
    · rfl
    rw [List.length_map] at hk
    have ek : (ls.map lpD)[k]? = some (lpD ls[k]) := by rw [List.getElem?_map, List.getElem?_eq_getElem hk]; rfl
    rw [loopBad_at ek, loop_ok h hy (List.getElem?_eq_getElem hk)]
    rfl
  unfold dueD
  rw [e]
  show (lotFault ((ls.map lpD).length : Int) (.list (fs.map PyData.int))).map (fun i => (("fast" : Str), i)) = none
  rw [List.length_map, lot_ok hf]
  rfl
end X6
/-! law. -/
namespace X6
open PySem PySem.Spec PyProof.Rows L2 LK MXo MXi MXp MXq MXg
/-- the class, its __init__ -/
structure Cl2 (P : Program) (w : World) (K : PySem.W.Frag) (mg : Str → Option Value) (base : Heap) (CC CF CL : Addr) where
  (fC : Addr)
  (dC : FuncData)
  cc : Cls K CC
  n1 : NoAttr K CC "_loops"
  n2 : NoAttr K CC "_fast"
  mC : Mk K CC fC
  oC : FnOk P w K mg base (L2N.CX P w) 6 fC dC ["self", "loops", "fast"] (spClo K CC CF CL)
  gC : mg "Cloth" = some (.ref CC)
  bC : Binds K dC ["self", "loops", "fast"] []
theorem sqT_but {K : PySem.W.Frag} {H H' : Hp} {x a C dx : Addr} {fs : List (Str × V)} {xs : List V} (hx : H x = some (.ins C dx fs)) (s : But x H H') (h : SqT K H a xs) : SqT K H' a xs := by
  rcases h with (h | ⟨o, h⟩) | h
  · exact .inl (.inl (s _ _ (ne_of h hx (by intro q; cases q)) h))
  · exact .inl (.inr ⟨o, s _ _ (ne_of h hx (by intro q; cases q)) h⟩)
  · exact .inr h
theorem lps_but {K : PySem.W.Frag} {H H' : Hp} {x C dx : Addr} {fs : List (Str × V)} (hx : H x = some (.ins C dx fs)) (s : But x H H') : ∀ {xs : List V} {ls : List Lp}, DpAll K H xs (ls.map lpD) → DpAll K H' xs (ls.map lpD)
  | _, [], .nil => .nil
  | _, _ :: _, .cons h r => by
    refine .cons ?_ (lps_but hx s r)
    cases h with
    | tup q a =>
      cases a with
      | cons d1 a =>
        cases d1
        cases a with
        | cons d2 dn =>
          cases dn
          cases d2 with
          | tup s2 a2 => exact .tup (sqT_but hx s q) (.cons (.str _) (.cons (.tup (sqT_but hx s s2) (dp_tk_ints a2)) .nil))
/-- a cloth of right loops is made -/
theorem clo_any {K : PySem.W.Frag} {CC CF CL : Addr} {H : Hp} {x dx l g : Addr} {Q : VK} {E : XK} {ys : List Str} {ls : List Lp} {fs : List Int} {xs : List V} (cc : Cls K CC) (n1 : NoAttr K CC "_loops") (n2 : NoAttr K CC "_fast") (hl : H l = some (.lst xs)) (dl : DpAll K H xs (ls.map lpD)) (hg : H g = some (.lst (fs.map V.int))) (ok : OkLs ys ls) (hy : ∀ y ∈ ys, Yn y) (hf : OkFs ls.length fs) (ln : ls.length ≤ 100) (nx : H x = none) (ndx : H dx = none)
    (k : ∀ (H' : Hp) (ms : List Int) (L G : Addr) (xs' : List V), Same H H' → H L = none → H G = none → H' x = some (.ins CC dx [("_loops", .ref L), ("_fast", .ref G)]) → H' L = some (.lst xs') → DpAll K H' xs' (ls.map lpD) → H' G = some (.lst (ms.map V.int)) → ms.Perm fs → Q .non H') : spClo K CC CF CL [.ref x, .ref l, .ref g] (L2.upd (L2.upd H dx (.own x)) x (.ins CC dx [])) Q E := by
  have s0 : Same H (L2.upd (L2.upd H dx (.own x)) x (.ins CC dx [])) := fun b o e => by
    rw [upd_ne (ne_of_none e nx), upd_ne (ne_of_none e ndx)]
    exact e
  have due := due_ok ok hy hf
  have it := lps_items ok hy ln (by decide)
  have gd := (it.good (by decide)).1
  have tf : tame (.list (fs.map PyData.int)) = true := by
    rw [tame, tame_ints, Bool.and_true, List.length_map]
    have := hf.len
    exact decide_eq_true (by omega)
  refine ⟨x, dx, .ref l, .ref g, .list (ls.map lpD), .list (fs.map PyData.int), rfl, upd_same, cc, n1, n2, .lst (SqL.of (s0 _ _ hl)) (dps_same s0 dl), .lst (SqL.of (s0 _ _ hg)) (dp_ints_of _), gd.tm, gd.lay, tf, fun i q => ?_, fun i q => ?_, fun ds ns ms L G H' xs' q ed ee pm pw nL nG LG hx hL hxs hG bx => ?_⟩
  · rw [due] at q
    cases q
  · rw [due] at q
    cases q
  · cases ed
    have e : ns = fs := by
      have e1 : fs.map PyData.int = ns.map PyData.int := by injection ee
      have e2 := congrArg (List.map fun d => match d with | PyData.int i => i | _ => 0) e1
      simp only [List.map_map, Function.comp_def, List.map_id'] at e2
      exact e2.symm
    subst e
    have back : ∀ {p : Addr}, L2.upd (L2.upd H dx (.own x)) x (.ins CC dx []) p = none → H p = none := fun {p} n => gone s0 n
    exact k H' ms L G xs' (fun b o e => bx b o (ne_of_none e nx) (s0 b o e)) (back nL) (back nG) hx hL (lps_but upd_same bx hxs) hG pm
def spLaw (K : PySem.W.Frag) : Sp := fun vs H Q _ => ∃ (a : Addr) (ns : List Int), vs = [.ref a] ∧ SqL K H a (ns.map V.int) ∧ ns.length ≤ 63 ∧ ∀ H', Q (.bl true) H'
end X6
/-! Words, lines, texts of lines. -/
namespace MSu
open PySem PySem.Spec PyProof.Rows L2 LK TL
/-- a number's text -/
def numS (i : Int) : Str := Str.ofString (toString i)
theorem tl_numS (n : Nat) : tl (numS (n : Int)) = numL n := tl_num n
/-- a word: no blank, no line's end, not too long -/
structure Word (w : Str) : Prop where
  nl : 10 ∉ tl w
  sp : 32 ∉ tl w
  ln : w.length ≤ 9
theorem word_num {n : Nat} (h : n < 10 ^ 9) : Word (numS (n : Int)) := by
  refine ⟨?_, ?_, ?_⟩
  · rw [tl_numS]
    exact numL_free (.inl (by decide))
  · rw [tl_numS]
    exact numL_free (.inl (by decide))
  · rw [len_tl, tl_numS]
    exact numL_len (by decide) h
theorem word_yn {y : Str} (h : Yn y) : Word y := by
  refine ⟨fun m => ?_, fun m => ?_, ?_⟩
  · have := h.2.2 10 m
    omega
  · have := h.2.2 32 m
    omega
  · have := h.2.1
    omega
theorem word_eq : Word "=" := ⟨by decide +kernel, by decide +kernel, by decide +kernel⟩
/-- a line -/
def lineD (ws : List Str) : Str := Txt.join " " ws ++ "\n"
/-- a text of lines -/
def textD (wss : List (List Str)) : Str := Txt.join "" (wss.map lineD)
theorem tl_sp : tl " " = [32] := by decide +kernel
theorem tl_nl : tl "\n" = [10] := by decide +kernel
theorem tl_e : tl "" = [] := by decide +kernel
theorem joinL_in {S : List Nat} : ∀ {xs : List (List Nat)} {c : Nat}, c ∈ joinL S xs → c ∈ S ∨ ∃ x ∈ xs, c ∈ x
  | [], c, h => absurd h List.not_mem_nil
  | [p], c, h => .inr ⟨p, List.mem_cons_self, h⟩
  | p :: q :: r, c, h => by
    have h : c ∈ p ++ (S ++ joinL S (q :: r)) := h
    rcases List.mem_append.mp h with h | h
    · exact .inr ⟨p, List.mem_cons_self, h⟩
    · rcases List.mem_append.mp h with h | h
      · exact .inl h
      · rcases joinL_in h with h | ⟨x, mx, h⟩
        · exact .inl h
        · exact .inr ⟨x, List.mem_cons_of_mem _ mx, h⟩
theorem joinL_len {S : List Nat} : ∀ (xs : List (List Nat)), (joinL S xs).length ≤ (xs.map List.length).sum + xs.length * S.length
  | [] => Nat.zero_le _
  | [p] => by
    show p.length ≤ _
    simp
  | p :: q :: r => by
    show (p ++ (S ++ joinL S (q :: r))).length ≤ _
    have := joinL_len (S := S) (q :: r)
    rw [List.length_append, List.length_append, List.map_cons, List.sum_cons, List.length_cons, Nat.succ_mul]
    omega
theorem sum_le {b : Nat} : ∀ {xs : List Nat}, (∀ x ∈ xs, x ≤ b) → xs.sum ≤ xs.length * b
  | [], _ => Nat.zero_le _
  | x :: r, h => by
    have := sum_le fun y m => h y (List.mem_cons_of_mem _ m)
    have := h x List.mem_cons_self
    rw [List.sum_cons, List.length_cons, Nat.succ_mul]
    omega
theorem tl_joinD (y : Str) (ws : List Str) : tl (Txt.join y ws) = joinL (tl y) (ws.map tl) := by rw [join_eq, tl_join]
theorem line_free {ws : List Str} (h : ∀ w ∈ ws, Word w) : 10 ∉ tl (Txt.join " " ws) := fun m => by
  rw [tl_joinD, tl_sp] at m
  rcases joinL_in m with m | ⟨x, mx, m⟩
  · exact absurd (List.mem_singleton.mp m) (by decide)
  · obtain ⟨w, mw, rfl⟩ := List.mem_map.mp mx
    exact (h w mw).nl m
theorem split_line {ws : List Str} (ne : ws ≠ []) (h : ∀ w ∈ ws, Word w) : Txt.split (Txt.join " " ws) " " = ws := split_join (y := " ") (s := 32) (S := []) tl_sp (by decide +kernel) ne fun p m => (h p m).sp
theorem joinL_nil : ∀ xs : List (List Nat), joinL [] xs = xs.flatten
  | [] => rfl
  | [p] => by simp [joinL]
  | p :: q :: r => by
    show p ++ ([] ++ joinL [] (q :: r)) = _
    rw [joinL_nil (q :: r), List.nil_append, List.flatten_cons (l := p)]
theorem joinL_snoc {s : Nat} : ∀ xs : List (List Nat), joinL [s] (xs ++ [[]]) = (xs.map fun p => p ++ [s]).flatten
  | [] => rfl
  | [p] => by simp [joinL]
  | p :: q :: r => by
    show p ++ ([s] ++ joinL [s] ((q :: r) ++ [[]])) = _
    rw [joinL_snoc (q :: r)]
    simp
theorem text_lines (wss : List (List Str)) : textD wss = Txt.join "\n" (wss.map (Txt.join " ") ++ [("" : Str)]) := by
  refine ext_tl ?_
  unfold textD
  rw [tl_joinD, tl_joinD, tl_e, tl_nl, joinL_nil, List.map_append, List.map_cons, List.map_nil, tl_e, joinL_snoc, List.map_map, List.map_map, List.map_map]
  congr 1
  refine List.map_congr_left fun ws _ => ?_
  show tl (Txt.join " " ws ++ "\n") = _
  rw [tl_append, tl_nl]
  rfl
theorem split_lines {wss : List (List Str)} (h : ∀ ws ∈ wss, ∀ w ∈ ws, Word w) : Txt.split (textD wss) "\n" = wss.map (Txt.join " ") ++ [("" : Str)] := by
  rw [text_lines]
  refine split_join (y := "\n") (s := 10) (S := []) tl_nl (by decide +kernel) (by simp) fun p m => ?_
  rcases List.mem_append.mp m with m | m
  · obtain ⟨ws, mw, rfl⟩ := List.mem_map.mp m
    exact line_free (h ws mw)
  · rw [List.mem_singleton.mp m, tl_e]
    exact List.not_mem_nil
/-- one more line -/
theorem text_snoc (wss : List (List Str)) (ws : List Str) : textD (wss ++ [ws]) = textD wss ++ lineD ws := by
  refine ext_tl ?_
  unfold textD
  rw [tl_append, tl_joinD, tl_joinD, tl_e, joinL_nil, joinL_nil, List.map_append, List.map_append, List.flatten_append]
  simp
theorem join_len {ws : List Str} {b : Nat} {y : Str} (h : ∀ w ∈ ws, w.length ≤ b) : (ws.map fun w => w.length).sum ≤ ws.length * b ∧ (Txt.join y ws).length ≤ ws.length * b + ws.length * y.length := by
  have s1 : (ws.map fun w => w.length).sum ≤ ws.length * b := by
    have := sum_le (xs := ws.map fun w => w.length) (b := b) fun x m => by
      obtain ⟨w, mw, rfl⟩ := List.mem_map.mp m
      exact h w mw
    rwa [List.length_map] at this
  refine ⟨s1, ?_⟩
  rw [len_tl, tl_joinD]
  refine Nat.le_trans (joinL_len _) ?_
  rw [List.map_map, List.length_map, ← len_tl y]
  have : (ws.map (List.length ∘ tl)).sum = (ws.map fun w => w.length).sum := by
    refine congrArg List.sum (List.map_congr_left fun w _ => (len_tl w).symm)
  omega
theorem line_len {ws : List Str} (h : ∀ w ∈ ws, Word w) (n : ws.length ≤ 1001) : (ws.map fun w => w.length).sum + ws.length * 1 ≤ 10010 ∧ (Txt.join " " ws).length ≤ 10010 ∧ (lineD ws).length ≤ 10011 := by
  obtain ⟨a, b⟩ := join_len (b := 9) (y := " ") fun w m => (h w m).ln
  have e : (" " : Str).length = 1 := by decide +kernel
  have e2 : ("\n" : Str).length = 1 := by decide +kernel
  rw [e] at b
  refine ⟨by omega, by omega, ?_⟩
  unfold lineD
  rw [len_app, e2]
  omega
theorem text_len {wss : List (List Str)} (h : ∀ ws ∈ wss, (∀ w ∈ ws, Word w) ∧ ws.length ≤ 1001) (n : wss.length ≤ 1001) : ((wss.map lineD).map fun w => w.length).sum + (wss.map lineD).length * 0 ≤ 11000000 ∧ (textD wss).length ≤ 11000000 := by
  obtain ⟨a, b⟩ := join_len (b := 10011) (y := "") (ws := wss.map lineD) fun w m => by
    obtain ⟨ws, mw, rfl⟩ := List.mem_map.mp m
    exact (line_len (h ws mw).1 (h ws mw).2).2.2
  have e : ("" : Str).length = 0 := by decide +kernel
  rw [e, List.length_map] at b
  rw [List.length_map] at a
  rw [List.length_map]
  refine ⟨by omega, ?_⟩
  unfold textD
  omega
/-- str of a text or of a number -/
theorem call_strA {X : Cx} : CallR X (.type "str") (fun xs H Q => (∃ a, xs = [V.str a] ∧ Q (V.str a) H) ∨ (∃ i : Int, xs = [V.int i] ∧ i.natAbs.log2 < 1920 ∧ Q (V.str (toString i)) H)) := by
  intro pins s σ H xs us Q I r h
  rcases h with h | h
  · exact SkE.call_str_str pins s σ H xs us Q I r h
  · exact call_str_int pins s σ H xs us Q I r h
theorem log_small {i : Int} (h0 : 0 ≤ i) (h : i < 10 ^ 9) : i.natAbs.log2 < 1920 := by
  have : i.natAbs < 2 ^ 30 := by omega
  by_cases z : i.natAbs = 0
  · rw [z]
    decide
  · have := (Nat.log2_lt z).mpr this
    omega
end MSu
/-! a, *b = a list: the first one, and a new list of the others. -/
namespace MSt
open PySem PySem.Spec PyProof.Rows L2
section
variable {prog : Program} {w : World} {A : Around} {E : Value → Shared → Prop}
/-- an iterator of the list at l, i behind the first one -/
def LiSt (it l : Addr) (items : Array Value) (i : Nat) (s : Shared) : Prop := s.heap.IsListIter it l (i + 1) ∧ s.heap.IsList l items
theorem walks_li {it l : Addr} {items : Array Value} (hh : A.handled = none) (ne : l ≠ it) : WalksS prog w A it [it, l] [it] (fun a b => a = b) (items.size - 1) (fun i v => items[i + 1]? = some v) (LiSt it l items) where
  sub := fun b m => by
    rw [List.mem_singleton.mp m]
    exact List.mem_cons_self
  grefl := fun _ => rfl
  gtrans := fun _ _ _ h k => h.trans k
  frame := fun i s h' tk st _ keep => ⟨st.1.at fun o e => keep it List.mem_cons_self o e, st.2.at fun o e => keep l (List.mem_cons_of_mem _ List.mem_cons_self) o e⟩
  item := fun i s Q E hi st k => by
    have lt : i + 1 < items.size := by omega
    refine wpAny_pyNext_list_item st.1 st.2 (x := items[i + 1]) (Array.getElem?_eq_getElem lt) fun h' a b => ?_
    refine k _ _ (Array.getElem?_eq_getElem lt) ⟨a, st.2.extBut b.extBut ne⟩ ⟨fun c o n e => b.extBut c o (fun z => n (by rw [z]; exact List.mem_cons_self)) e, rfl, rfl, rfl, Nat.le_refl _⟩
  done := fun s Q E st k => by
    refine wpAny_pyNext_list_end hh st.1 st.2 (Array.getElem?_eq_none (by omega)) fun h' b => ?_
    exact k _ ⟨fun c o n e => b c o (fun z => n (by rw [z]; exact List.mem_cons_self)) e, rfl, rfl, rfl, Nat.le_refl _⟩
  self := fun i s Q E st q => wpAny_pyIter_listiter st.1 q
/-- what is drawn of a list where the second target takes all others -/
theorem unpackItems_star {s : Shared} {l : Addr} {y : Value} {rest : List Value} {Q : List Value → Shared → Prop} (hh : A.handled = none) (hl : s.heap.IsList l (y :: rest).toArray) (hn : rest.length ≤ sizeLine)
    (hQ : ∀ (h' : Heap) (tk : Tok), s.toks ≤ tk → (∀ b o, b ≠ s.heap.objs.size → s.heap.get? b = some o → h'.get? b = some o) →
      Q [y, .ref h'.objs.size] { s with heap := h'.push { cls := .type "list", data := .seq rest.toArray }, toks := tk }) : wpAny (model prog w) A (unpackItems (.ref l) 2 (some 1)) Q E s := by
  have ne : l ≠ s.heap.objs.size := by
    obtain ⟨o, ho, _⟩ := hl
    exact Nat.ne_of_lt (Heap.lt_size ho)
  unfold unpackItems
  refine wpAny_bind ?_
  unfold notIterableAtAll
  refine wpAny_bind (wpAny_specialOf hl.typeIs slot_list_iter.lookup ?_)
  refine wpAny_pure ?_
  simp only [Bool.false_eq_true, if_false]
  refine wpAny_bind (wpAny_holding (wpAny_pyIter_list hl ?_))
  have i0 : (s.heap.push { cls := .type "list_iterator", data := .fields #[.ref l, .int 0 0] }).IsListIter s.heap.objs.size l 0 := ⟨_, Heap.get?_push_size _ rfl, rfl, rfl⟩
  have l0 := hl.push { cls := .type "list_iterator", data := .fields #[.ref l, .int 0 0] }
  have k0 : ∀ b o, s.heap.get? b = some o → (s.heap.push { cls := .type "list_iterator", data := .fields #[.ref l, .int 0 0] }).get? b = some o := fun b o e => Heap.get?_push_of_some _ e
  have z0 : s.heap.objs.size < (s.heap.push { cls := .type "list_iterator", data := .fields #[.ref l, .int 0 0] }).objs.size := by rw [Heap.size_push]; exact Nat.lt_succ_self _
  generalize s.heap.push { cls := .type "list_iterator", data := .fields #[.ref l, .int 0 0] } = h0 at i0 l0 k0 z0
  refine wpAny_bind (wpAny_holding ?_)
  show wpAny _ _ (draw (.ref s.heap.objs.size) (0 + 1)) _ _ _
  unfold draw
  refine wpAny_bind (wpAny_pyNext_list_item (s := { s with heap := h0 }) i0 l0 (x := y) rfl fun h1 i1 b1 => ?_)
  refine wpAny_bind (wpAny_holding ?_)
  show wpAny _ _ (pure []) _ _ _
  refine wpAny_pure (wpAny_pure ?_)
  rw [if_neg (show ¬ [y].length < 1 by simp)]
  have i1' : Heap.IsListIter h1 s.heap.objs.size l (0 + 1) := i1
  have l1 : h1.IsList l (y :: rest).toArray := l0.extBut b1.extBut ne
  have z1 : s.heap.objs.size < h1.objs.size := by
    obtain ⟨o, e, _⟩ := i1'
    exact Heap.lt_size e
  have zl : l < h1.objs.size := by
    obtain ⟨o, e, _⟩ := l1
    exact Heap.lt_size e
  refine wpAny_bind (wpAny_holding (wpAny_collect_iter (I := s.heap.objs.size) (.inr (.inr (.inl rfl))) (walks_li (prog := prog) (w := w) (A := A.in1) hh ne) (fun i s st => st.1.typeIs) ⟨i1', l1⟩ (fun b m => ?_) List.mem_cons_self (fun s2 acc mv it => ?_) (by simpa using hn)))
  · rcases List.mem_cons.mp m with rfl | m
    · exact z1
    · rw [List.mem_singleton.mp m]
      exact zl
  have ea : acc.toList = rest := by
    refine List.ext_getElem? fun j => ?_
    have sz : acc.toList.length = rest.length := by
      have := it.1
      simpa using this
    by_cases c : j < rest.length
    · have e1 : acc[j]? = some (acc.toList[j]'(by omega)) := by
        rw [← Array.getElem?_toList]
        exact List.getElem?_eq_getElem _
      have e2 := it.2 j _ e1
      have e3 : (y :: rest).toArray[j + 1]? = rest[j]? := by simp
      have e4 := e3.symm.trans e2
      rw [e4]
      exact List.getElem?_eq_getElem _
    · rw [List.getElem?_eq_none (by omega), List.getElem?_eq_none (by omega)]
  rw [ea]
  rw [if_neg (by omega)]
  rw [show rest.length - (2 - 1 - 1) = rest.length from rfl, List.take_length, List.drop_length]
  obtain ⟨mh, mg, md, mo, mt⟩ := mv
  obtain ⟨h2, g2, d2, t2, o2⟩ := s2
  dsimp only at mh mg md mo mt
  subst mg md mo
  refine wpAny_bind (wpAny_newObj_type ?_ (by show rest.toArray.size ≤ sizeLine; rw [List.size_toArray]; exact hn))
  refine wpAny_pure ?_
  have k2 : ∀ b o, b ≠ s.heap.objs.size → s.heap.get? b = some o → h2.get? b = some o := fun b o n e => mh b o (fun m => n (List.mem_singleton.mp m)) (b1.extBut b o n (k0 b o e))
  exact hQ h2 t2 mt k2
end
/-- a, *b = a list -/
def gStar (K : PySem.W.Frag) (t u : TG) : TG := fun v σ H Q => ∃ (a : Addr) (y : V) (ys : List V), v = .ref a ∧ SqL K H a (y :: ys) ∧ ∀ p, H p = none → t y σ (upd H p (.lst ys)) fun σ' H' => u (.ref p) σ' H' Q
section
variable {X : Cx} {e1 e2 : Expr} {t u : TG} {p pos : Pos} {k : Nat}
theorem pg_star (hc : X.calm = true) (h1 : PG X e1 t) (h2 : PG X e2 u) (hs : assignEach [e1, .Starred e2 p] X.env = [(false, assign e1 X.env), (true, assign e2 X.env)] := by rfl) : PG X (.Tuple [e1, .Starred e2 p] k pos) (gStar X.K t u) := by
  refine ⟨fun pins s σ H v w Q I r hw => ?_⟩
  obtain ⟨a, y, ys, rfl, hq, hw⟩ := hw
  cases r
  obtain ⟨its, rv, ⟨o, n, ho, hcl, _, hd⟩, hz⟩ := I.list hq
  cases rv with
  | @cons _ vy _ vys ry rys =>
  have ln : vys.length ≤ sizeLine := by
    rw [← rys.length]
    exact Nat.le_of_succ_le hz
  rw [assign_Tuple]
  refine wpAny_bind (wpAny_standAt ?_)
  unfold unpack
  rw [hs]
  refine wpAny_bind (wpAny_holding (unpackItems_star (I.ok.hd hc) ⟨o, ho, hcl, n, hd⟩ ln fun h' tk ht hk => ?_))
  have I1 : Inv X pins σ H { s with heap := h', toks := tk } := I.kept (t' := tk) fun b o e => hk b o (Nat.ne_of_lt (Heap.lt_size e)) e
  have I2 : Inv X pins σ (upd H h'.objs.size (.lst ys)) { s with heap := h'.push { cls := .type "list", data := .seq vys.toArray }, toks := tk } :=
    I1.laid (t' := tk) (fun b o e => Heap.get?_push_of_some _ e) (Nat.le_refl _) ⟨Nat.le_of_succ_le hz, vys, 0, rys, Heap.get?_push_size _ rfl⟩
  refine assignInOrder_cons (thn (h1.run pins _ σ _ y vy _ I2 ry (hw _ (I1.hok.fresh (Nat.le_refl _)))) fun _ s1 ⟨σ1, H1, J1, q1⟩ => ?_)
  refine assignInOrder_cons (thn (h2.run pins s1 σ1 H1 (.ref h'.objs.size) (.ref h'.objs.size) _ J1 rfl q1) fun _ s2 ⟨σ2, H2, J2, q2⟩ => ?_)
  exact assignInOrder_nil ⟨σ2, H2, J2, q2⟩
end
end MSt
/-! xs[::n], n a written number above 0. -/
namespace MXu
open PySem PySem.Spec PyProof.Rows L2
/-- every n-th -/
def everyN {α : Type} (n : Int) (xs : List α) : List α := (sliceRange 0 xs.length n).filterMap fun k => xs[k]?
theorem vals_at : ∀ {xs : List V} {us : List Value} (r : Vals xs us) (k : Nat), (xs[k]? = none ∧ us[k]? = none) ∨ ∃ x u, xs[k]? = some x ∧ us[k]? = some u ∧ RelV x u
  | _, _, .nil, k => .inl ⟨by simp, by simp⟩
  | _, _, .cons r t, 0 => .inr ⟨_, _, rfl, rfl, r⟩
  | _, _, .cons r t, k + 1 => by
    simpa using vals_at t k
theorem vals_pick {xs : List V} {us : List Value} (r : Vals xs us) : ∀ R : List Nat, Vals (R.filterMap fun k => xs[k]?) (R.filterMap fun k => us[k]?)
  | [] => .nil
  | k :: R => by
    rcases vals_at r k with ⟨h1, h2⟩ | ⟨x, u, h1, h2, h⟩
    · rw [List.filterMap_cons, List.filterMap_cons, h1, h2]
      exact vals_pick r R
    · rw [List.filterMap_cons, List.filterMap_cons, h1, h2]
      exact .cons h (vals_pick r R)
theorem pick_n {n : Nat} (pos : 0 < n) (us : List Value) : slicePick us.toArray none none (some (n : Int)) = ((sliceRange 0 us.length n).filterMap fun k => us[k]?).toArray := by
  have e : sliceBounds none none (some (n : Int)) us.toArray.size = (0, (us.length : Int), (n : Int)) := by
    unfold sliceBounds
    simp only [Option.getD_some, List.size_toArray]
    rw [if_pos (by omega), if_pos (by omega)]
  unfold slicePick
  rw [e]
  simp
section
variable {X : Cx}
def tEach (K : PySem.W.Frag) (n : Nat) (te : TE) : TE := fun σ H Q => te σ H fun x H1 => ∃ a xs, x = .ref a ∧ SqL K H1 a xs ∧ (everyN (n : Int) xs).length ≤ sizeLine ∧ ∀ p, H1 p = none → Q (.ref p) (upd H1 p (.lst (everyN (n : Int) xs)))
theorem pe_each {e : Expr} {te : TE} {k n : Nat} {p1 p3 pos : Pos} (pos_ : 0 < n) (he : PE X e te) : PE X (.Subscript e (.Slice none none (some (.Constant (.int n) k p1)) p3) pos) (tEach X.K n te) := by
  refine ⟨fun pins s σ H Q I h => ?_⟩
  refine Subscript_ (thn (he.run pins s σ H _ I h) fun v s1 ⟨x, H1, I1, r1, q1⟩ => ?_)
  obtain ⟨a, xs, ex, hx, room, q⟩ := q1
  subst ex
  cases r1
  have hst : PO X (some (.Constant (.int n) k p1)) (tPart (tC (.int n))) := po_some pe_int
  refine wpAny_Slice (thn (po_none.run pins s1 σ H1 (fun o H2 => o = none ∧ H2 = H1) I1 ⟨rfl, rfl⟩) fun vl s2 ⟨l, H2, I2, pl, el, e2⟩ => ?_)
  subst el e2
  refine thn (po_none.run pins s2 σ H2 (fun o H3 => o = none ∧ H3 = H2) I2 ⟨rfl, rfl⟩) fun vu s3 ⟨u, H3, I3, pu, eu, e3⟩ => ?_
  subst eu e3
  refine thn (hst.run pins s3 σ H3 (fun o H4 => o = some (n : Int) ∧ H4 = H3) I3 ⟨n, rfl, rfl, rfl⟩) fun vs s4 ⟨o, H4, I4, ps, eo, e4⟩ => ?_
  subst eo e4
  have I5 : Inv X pins σ H4 { s4 with heap := s4.heap.push { cls := .type "slice", data := .fields #[vl, vu, vs] } } := I4.kept (t' := s4.toks) fun b ob q => Heap.get?_push_of_some _ q
  obtain ⟨its, r, ht, hz⟩ := I5.list hx
  have hlen := r.length
  show wpAny (model X.prog X.w) X.A (subscriptTail e (.Slice none none (some (.Constant (.int n) k p1)) p3) (.ref a) (.ref s4.heap.objs.size)) (EP X pins σ Q) X.xe { s4 with heap := s4.heap.push { cls := .type "slice", data := .fields #[vl, vu, vs] } }
  refine tail_any (ops := [.ref a, .ref s4.heap.objs.size]) ht.isList.typeIs (PySem.slot_list_getitem.lookup) ?_ (by with_unfolding_all rfl)
  refine wpAny_getItem_list_slice ht.isList (Heap.IsSliceOf.new _ vl vu vs) pl pu ps (by intro z; have := Option.some.inj z; omega) ?_ (by rw [List.size_toArray]; omega)
  rw [pick_n pos_, ← hlen]
  refine ⟨.ref _, _, I5.laid (t' := s4.toks) (o := .lst (everyN (n : Int) xs)) (fun b ob q => Heap.get?_push_of_some _ q) (Nat.le_refl _) ?_, rfl, q _ (I5.hok.fresh (Nat.le_refl _))⟩
  exact ⟨room, _, 0, vals_pick r _, Heap.get?_push_size _ rfl⟩
end
end MXu
/-! A comprehension over enumerate of a list that stands still. -/
namespace MXv
open PySem PySem.Spec PyProof.Rows L2
theorem lc_enum {K : PySem.W.Frag} {a : Addr} {xs : List V} {g : TG} {tt : TT} {te : TE} {vs : List Nat} {σ : L2.St} {H1 : Hp} {D : Addr} {Qd : Hp → Prop} (Pv : Nat → Hp → Prop) (h0 : Pv 0 (upd H1 D (.lst []))) (hq : ∀ i H, Pv i H → SqL K H a xs)
    (hs : ∀ (i : Nat) (x : V) (T : Addr) (H : Hp), xs[i]? = some x → Pv i H → H T = none → g (.ref T) (wipe σ vs) (upd H T (.tup [.int (i : Nat), x])) fun σ2 H2 => wipe σ2 vs = wipe σ vs ∧ tt σ2 H2 fun b H3 =>
      if b = true then te σ2 H3 fun y H4 => ∃ acc, H4 D = some (.lst acc) ∧ acc.length < sizeLine ∧ Pv (i + 1) (upd H4 D (.lst (acc ++ [y]))) else Pv (i + 1) H3) (hd : ∀ H, Pv xs.length H → Qd H) :
    ∃ W : Nat → Nat → Hp → Prop, (∃ m, W 0 m (upd H1 D (.lst []))) ∧ ∀ i m H, W i m H →
      ((Ite K a).stop i H ∧ Qd H) ∨ ((Ite K a).go i H ∧ ∃ Nx : Hp → Prop, (∀ H', Nx H' → ∃ m', m' < m ∧ W (i + 1) m' H') ∧ ∀ v H', (Ite K a).yld i H v H' → g v (wipe σ vs) H' fun σ2 H2 => wipe σ2 vs = wipe σ vs ∧ tt σ2 H2 fun b H3 =>
        if b = true then te σ2 H3 fun y H4 => ∃ acc, H4 D = some (.lst acc) ∧ acc.length < sizeLine ∧ Nx (upd H4 D (.lst (acc ++ [y]))) else Nx H3) := by
  refine ⟨fun i m H => m = xs.length - i ∧ i ≤ xs.length ∧ Pv i H, ⟨xs.length, rfl, Nat.zero_le _, h0⟩, ?_⟩
  rintro i m H ⟨rfl, hi, p⟩
  have qx := hq i H p
  by_cases hlt : i < xs.length
  · have hx : xs[i]? = some xs[i] := List.getElem?_eq_getElem hlt
    refine .inr ⟨⟨xs, _, qx, hx⟩, Pv (i + 1), fun H' p' => ⟨xs.length - (i + 1), by omega, rfl, hlt, p'⟩, fun v H' y => ?_⟩
    obtain ⟨T, x', rfl, hT, rfl, f1⟩ := y
    exact hs i x' T H (f1 xs qx) p hT
  · have e : i = xs.length := by omega
    subst e
    exact .inl ⟨⟨xs, qx, Nat.le_refl _⟩, hd H p⟩
end MXv
/-! Comprehensions that filter and map, by two continuations. -/
namespace MY
open PySem PySem.Spec PyProof.Rows L2 LK
theorem ne_none {H : Hp} {a p : Addr} {o : HO} (e : H a = some o) (n : H p = none) : a ≠ p := fun q => by
  subst q
  rw [e] at n
  cases n
theorem same_newU {H H' : Hp} {p : Addr} {o : HO} (s : Same H H') (n : H p = none) : Same H (upd H' p o) := fun b u e => by
  rw [upd_ne (ne_none e n)]
  exact s b u e
/-- what stays when the creel alone is written -/
theorem bt_newU {H H' : Hp} {p c : Addr} {o : HO} (s : Bt c H H') (n : H p = none) : Bt c H (upd H' p o) := fun b u ne e => by
  rw [upd_ne (ne_none e n)]
  exact s b u ne e
section
variable {α : Type}
theorem filt_some {ns : List α} {f : α → Bool} {i : Nat} {x : α} (h : ns[i]? = some x) : (ns.take (i + 1)).filter f = if f x = true then (ns.take i).filter f ++ [x] else (ns.take i).filter f := by
  rw [List.take_add_one, h, Option.toList_some, List.filter_append, List.filter_cons, List.filter_nil]
  split <;> simp
theorem filt_le (ns : List α) (f : α → Bool) (i : Nat) : ((ns.take i).filter f).length ≤ ns.length := Nat.le_trans (List.length_filter_le _ _) (List.length_take_le' _ _)
/-- the step of all of them -/
theorem step_ok {ns : List α} {f : α → Bool} {e : α → V} {H : Hp} {D : Addr} {i : Nat} {x : α} (nD : H D = none) (ln : ns.length ≤ 1000000) (hx : ns[i]? = some x) {g : TG} {tt : TT} {te : TE} {σ σ' : L2.St} {v : V} {vs : List Nat} {H1 : Hp}
    (hp : Same H H1 ∧ H1 D = some (.lst (((ns.take i).filter f).map e)))
    (hs : ∀ (yes : V → Hp → Prop) (no : Hp → Prop), (f x = true → ∀ H2, Same H1 H2 → yes (e x) H2) → (f x = false → ∀ H2, Same H1 H2 → no H2) → g v σ' H1 fun σ2 H2 => wipe σ2 vs = wipe σ vs ∧ tt σ2 H2 fun b H3 => if b = true then te σ2 H3 yes else no H3) :
    g v σ' H1 fun σ2 H2 => wipe σ2 vs = wipe σ vs ∧ tt σ2 H2 fun b H3 => if b = true then te σ2 H3 fun y H4 => ∃ acc, H4 D = some (.lst acc) ∧ acc.length < sizeLine ∧ (Same H (upd H4 D (.lst (acc ++ [y]))) ∧ upd H4 D (.lst (acc ++ [y])) D = some (.lst (((ns.take (i + 1)).filter f).map e))) else Same H H3 ∧ H3 D = some (.lst (((ns.take (i + 1)).filter f).map e)) := by
  refine hs _ _ (fun hf H2 s2 => ⟨_, s2 _ _ hp.2, ?_, same_newU (hp.1.trans s2) nD, ?_⟩) (fun hf H2 s2 => ⟨hp.1.trans s2, ?_⟩)
  · rw [List.length_map]
    have := filt_le ns f i
    have : sizeLine = 16777216 := sizeLine_eq
    omega
  · rw [upd_same, filt_some hx, if_pos hf, List.map_append]
    rfl
  · rw [s2 _ _ hp.2, filt_some hx, if_neg (by rw [hf]; decide)]
/-- over a list that stands still -/
theorem lcf_list {K : PySem.W.Frag} {a : Addr} {ns : List α} {c : α → V} {g : TG} {tt : TT} {te : TE} {vs : List Nat} {σ : L2.St} {H : Hp} {D : Addr} {Qd : Hp → Prop} (f : α → Bool) (e : α → V) (ha : SqL K H a (ns.map c)) (nD : H D = none) (ln : ns.length ≤ 1000000)
    (hs : ∀ (i : Nat) (x : α) (H1 : Hp) (yes : V → Hp → Prop) (no : Hp → Prop), ns[i]? = some x → Same H H1 → (f x = true → ∀ H2, Same H1 H2 → yes (e x) H2) → (f x = false → ∀ H2, Same H1 H2 → no H2) → g (c x) (wipe σ vs) H1 fun σ2 H2 => wipe σ2 vs = wipe σ vs ∧ tt σ2 H2 fun b H3 => if b = true then te σ2 H3 yes else no H3)
    (hd : ∀ H', Same H H' → H' D = some (.lst ((ns.filter f).map e)) → Qd H') :
    ∃ W : Nat → Nat → Hp → Prop, (∃ m, W 0 m (upd H D (.lst []))) ∧ ∀ i m H, W i m H →
      ((Itl K a).stop i H ∧ Qd H) ∨ ((Itl K a).go i H ∧ ∃ Nx : Hp → Prop, (∀ H', Nx H' → ∃ m', m' < m ∧ W (i + 1) m' H') ∧ ∀ x H', (Itl K a).yld i H x H' → g x (wipe σ vs) H' fun σ2 H2 => wipe σ2 vs = wipe σ vs ∧ tt σ2 H2 fun b H3 =>
        if b = true then te σ2 H3 fun y H4 => ∃ acc, H4 D = some (.lst acc) ∧ acc.length < sizeLine ∧ Nx (upd H4 D (.lst (acc ++ [y]))) else Nx H3) := by
  refine lc_list (K := K) (a := a) (xs := ns.map c) (fun i H' => Same H H' ∧ H' D = some (.lst (((ns.take i).filter f).map e))) ⟨same_new nD, upd_same⟩ (fun i H' _ hp => hp.1.seq ha) (fun i y H' hy hp => ?_) (fun H' hp => ?_)
  · rw [List.getElem?_map] at hy
    obtain ⟨x, hx, rfl⟩ := Option.map_eq_some_iff.mp hy
    exact step_ok nD ln hx hp fun yes no y n => hs i x H' yes no hx hp.1 y n
  · have h2 := hp.2
    rw [List.length_map, List.take_length] at h2
    exact hd H' hp.1 h2
/-- over a tuple -/
theorem lcf_tup {K : PySem.W.Frag} {a : Addr} {ns : List α} {c : α → V} {g : TG} {tt : TT} {te : TE} {vs : List Nat} {σ : L2.St} {H : Hp} {D : Addr} {Qd : Hp → Prop} (f : α → Bool) (e : α → V) (ha : SqT K H a (ns.map c)) (nD : H D = none) (ln : ns.length ≤ 1000000)
    (hs : ∀ (i : Nat) (x : α) (H1 : Hp) (yes : V → Hp → Prop) (no : Hp → Prop), ns[i]? = some x → Same H H1 → (f x = true → ∀ H2, Same H1 H2 → yes (e x) H2) → (f x = false → ∀ H2, Same H1 H2 → no H2) → g (c x) (wipe σ vs) H1 fun σ2 H2 => wipe σ2 vs = wipe σ vs ∧ tt σ2 H2 fun b H3 => if b = true then te σ2 H3 yes else no H3)
    (hd : ∀ H', Same H H' → H' D = some (.lst ((ns.filter f).map e)) → Qd H') :
    ∃ W : Nat → Nat → Hp → Prop, (∃ m, W 0 m (upd H D (.lst []))) ∧ ∀ i m H, W i m H →
      ((Itt K a).stop i H ∧ Qd H) ∨ ((Itt K a).go i H ∧ ∃ Nx : Hp → Prop, (∀ H', Nx H' → ∃ m', m' < m ∧ W (i + 1) m' H') ∧ ∀ x H', (Itt K a).yld i H x H' → g x (wipe σ vs) H' fun σ2 H2 => wipe σ2 vs = wipe σ vs ∧ tt σ2 H2 fun b H3 =>
        if b = true then te σ2 H3 fun y H4 => ∃ acc, H4 D = some (.lst acc) ∧ acc.length < sizeLine ∧ Nx (upd H4 D (.lst (acc ++ [y]))) else Nx H3) := by
  refine lc_tup (K := K) (a := a) (xs := ns.map c) (fun i H' => Same H H' ∧ H' D = some (.lst (((ns.take i).filter f).map e))) ⟨same_new nD, upd_same⟩ (fun i H' _ hp => same_tup hp.1 ha) (fun i y H' hy hp => ?_) (fun H' hp => ?_)
  · rw [List.getElem?_map] at hy
    obtain ⟨x, hx, rfl⟩ := Option.map_eq_some_iff.mp hy
    exact step_ok nD ln hx hp fun yes no y n => hs i x H' yes no hx hp.1 y n
  · have h2 := hp.2
    rw [List.length_map, List.take_length] at h2
    exact hd H' hp.1 h2
end
/-- over range(n) -/
theorem lcf_range {n : Nat} {g : TG} {tt : TT} {te : TE} {vs : List Nat} {σ : L2.St} {H : Hp} {D : Addr} {Qd : Hp → Prop} (f : Nat → Bool) (e : Nat → V) (nD : H D = none) (ln : n ≤ 1000000)
    (hs : ∀ (i : Nat) (H1 : Hp) (yes : V → Hp → Prop) (no : Hp → Prop), i < n → Same H H1 → (f i = true → ∀ H2, Same H1 H2 → yes (e i) H2) → (f i = false → ∀ H2, Same H1 H2 → no H2) → g (.int (i : Int)) (wipe σ vs) H1 fun σ2 H2 => wipe σ2 vs = wipe σ vs ∧ tt σ2 H2 fun b H3 => if b = true then te σ2 H3 yes else no H3)
    (hd : ∀ H', Same H H' → H' D = some (.lst (((List.range n).filter f).map e)) → Qd H') :
    ∃ W : Nat → Nat → Hp → Prop, (∃ m, W 0 m (upd H D (.lst []))) ∧ ∀ i m H, W i m H →
      ((Itr 0 n).stop i H ∧ Qd H) ∨ ((Itr 0 n).go i H ∧ ∃ Nx : Hp → Prop, (∀ H', Nx H' → ∃ m', m' < m ∧ W (i + 1) m' H') ∧ ∀ x H', (Itr 0 n).yld i H x H' → g x (wipe σ vs) H' fun σ2 H2 => wipe σ2 vs = wipe σ vs ∧ tt σ2 H2 fun b H3 =>
        if b = true then te σ2 H3 fun y H4 => ∃ acc, H4 D = some (.lst acc) ∧ acc.length < sizeLine ∧ Nx (upd H4 D (.lst (acc ++ [y]))) else Nx H3) := by
  have tk : ∀ i, i ≤ n → (List.range n).take i = List.range i := fun i h => by rw [List.take_range, Nat.min_eq_left h]
  refine lc_range (lo := 0) (n := n) (fun i H' => Same H H' ∧ H' D = some (.lst ((((List.range n).take i).filter f).map e))) ⟨same_new nD, upd_same⟩ (fun i H' hi hp => ?_) (fun H' hp => ?_)
  · rw [Int.zero_add]
    exact step_ok (ns := List.range n) nD (by rw [List.length_range]; exact ln) (List.getElem?_range hi) hp fun yes no y n => hs i H' yes no hi hp.1 y n
  · have h2 := hp.2
    rw [tk n (Nat.le_refl _)] at h2
    exact hd H' hp.1 h2
end MY
/-! Calls in a block, the row said by a letter. -/
namespace MYd
open PySem PySem.Spec PyProof.Rows L2 LK
def rListOf (K : PySem.W.Frag) : List V → Hp → VK → Prop := fun xs H Q => ∃ p ys, xs = [V.ref p] ∧ (SqL K H p ys ∨ SqT K H p ys) ∧ ∀ l, H l = none → Q (.ref l) (upd H l (.lst ys))
theorem listK {X : Cx} {K : PySem.W.Frag} (e : X.K = K := by rfl) : CallR X (.type "list") (rListOf K) := by
  subst e
  exact call_list_of
theorem pe_revK {X : Cx} {K : PySem.W.Frag} {e : Expr} {te : TE} {k : Nat} {p1 p2 p3 pos : Pos} (he : PE X e te) (e0 : X.K = K := by rfl) : PE X (.Subscript e (.Slice none none (some (.UnaryOp .USub (.Constant (.int 1) k p1) p2)) p3) pos) (tRevL K te) := by
  subst e0
  exact pe_revL he
theorem sl_listK {X : Cx} {K : PySem.W.Frag} (e0 : X.K = K := by rfl) : SlR X (rSlL K) := by
  subst e0
  exact sl_list
theorem hu65 {A : Around} {k : Nat} (hr : Room k A) : A.units + 65 < cLine := by
  have := hr.un
  omega
end MYd
/-! x not in range(..). -/
namespace MXt
open PySem PySem.Spec PyProof.Rows L2
section
variable {X : Cx} {a b : Expr} {ta : TE} {tr : L2.St → Hp → (Int → Int → Hp → Prop) → Prop} {pos : Pos}
def tNinRg (ta : TE) (tr : L2.St → Hp → (Int → Int → Hp → Prop) → Prop) : TE := fun σ H Q => ta σ H fun x H1 => ∃ k, x = V.int k ∧ tr σ H1 fun lo hi H2 => Q (.bl (!decide (lo ≤ k ∧ k < hi))) H2
theorem pe_ninRg (ha : PE X a ta) (hb : PRg X b tr) (hm : behindInMarks .NotIn b = false := by rfl) : PE X (.Compare a [.NotIn] [b] pos) (tNinRg ta tr) := by
  refine ⟨fun pins s σ H Q I h => ?_⟩
  refine wpAny_Compare1 (thn (ha.run pins s σ H _ I h) fun v s1 ⟨x, H1, I1, r1, q1⟩ => ?_) hm
  obtain ⟨k, rfl, q1⟩ := q1
  obtain ⟨tk, rfl⟩ := r1
  refine thn (hb pins s1 σ H1 _ I1 q1) fun u s2 q2 => ?_
  obtain ⟨r, lo, hi, t1, t2, t3, H2, rfl, ho, I2, q⟩ := q2
  exact NotIn_slot ⟨_, ho, rfl⟩ F.slot_range_contains (call_meets F.slot_range_contains ⟨_, ho, rfl⟩ F.entry_range_contains (F.args_range_contains_2 (.ref r) (.int k tk)) (q_contains r lo hi k t1 t2 t3 tk) ⟨ho, wpAny_truthy_bool ⟨.bl _, H2, I2, rfl, by rw [place1]; exact q⟩⟩)
theorem pt_ninRg (ha : PE X a ta) (hb : PRg X b tr) (hm : behindInMarks .NotIn b = false := by rfl) : PT X (.Compare a [.NotIn] [b] pos) (tTest (tNinRg ta tr)) := by
  refine ⟨fun pins s σ H Q I h => ?_⟩
  refine wpAny_isTrue_Compare1 (thn (ha.run pins s σ H _ I h) fun v s1 ⟨x, H1, I1, r1, q1⟩ => ?_) hm
  obtain ⟨k, rfl, q1⟩ := q1
  obtain ⟨tk, rfl⟩ := r1
  refine thn (hb pins s1 σ H1 _ I1 q1) fun u s2 q2 => ?_
  obtain ⟨r, lo, hi, t1, t2, t3, H2, rfl, ho, I2, b', e, q⟩ := q2
  cases e
  exact NotIn_slot ⟨_, ho, rfl⟩ F.slot_range_contains (call_meets F.slot_range_contains ⟨_, ho, rfl⟩ F.entry_range_contains (F.args_range_contains_2 (.ref r) (.int k tk)) (q_contains r lo hi k t1 t2 t3 tk) ⟨ho, wpAny_truthy_bool (wpAny_truthy_bool ⟨H2, I2, by rw [place1]; exact q⟩)⟩)
theorem lenK {K : PySem.W.Frag} (e : X.K = K := by rfl) : CallR X (.builtin "len") (fun xs H Q => ∃ p ys, xs = [V.ref p] ∧ (SqL K H p ys ∨ SqT K H p ys) ∧ Q (V.int ys.length) H) := e ▸ call_len_seq
end
end MXt
/-! Small facts over any row. -/
namespace MZ
open PySem PySem.Spec PyProof.Rows L2 LK MY
theorem gone {H H1 : Hp} {p : Addr} (s : Same H H1) (n : H1 p = none) : H p = none := by
  cases e : H p with
  | none => rfl
  | some o => rw [s _ _ e] at n; cases n
theorem cut_drop {xs : List V} {i : Nat} : cutV xs (some (i : Int)) none = xs.drop i := by
  unfold cutV
  rw [HT.sIx_nat, HT.sIx_none]
  rcases Nat.le_total i xs.length with h | h
  · rw [Nat.min_eq_left h, List.take_of_length_le (by rw [List.length_drop]; omega)]
  · rw [Nat.min_eq_right h, List.drop_eq_nil_of_le (Nat.le_refl _), List.drop_eq_nil_of_le h, List.take_nil]
theorem cut_to {xs : List V} {i : Nat} : cutV xs none (some (i : Int)) = xs.take i := by
  unfold cutV
  rw [HT.sIx_nat, HT.sIx_none]
  rcases Nat.le_total i xs.length with h | h
  · rw [Nat.min_eq_left h]
    rfl
  · rw [Nat.min_eq_right h, List.take_of_length_le h, Nat.sub_zero, List.drop_zero, List.take_of_length_le (Nat.le_refl _)]
theorem cut_mid {xs : List V} {i n : Nat} (h : i ≤ xs.length) : cutV xs (some (i : Int)) (some ((i : Int) + (n : Int))) = (xs.drop i).take n := by
  unfold cutV
  rw [show (i : Int) + (n : Int) = ((i + n : Nat) : Int) by omega, HT.sIx_nat, HT.sIx_nat, Nat.min_eq_left h]
  refine List.take_eq_take_iff.mpr ?_
  rw [List.length_drop]
  omega
theorem stJ {t : TS} {D : Ends} {σ : L2.St} {H : Hp} (R : L2.St → Hp → Prop) (h : ∀ D' : Ends, (∀ σ' H', R σ' H' → D'.nx σ' H') → t D' σ H) (q : ∀ σ' H', R σ' H' → D.nx σ' H') : t D σ H := h D q
theorem exK {te : TE} {σ : L2.St} {H : Hp} {Q : VK} (R : V → Hp → Prop) (h : ∀ Q' : VK, (∀ x H', R x H' → Q' x H') → te σ H Q') (q : ∀ x H', R x H' → Q x H') : te σ H Q := h Q q
theorem asgI {te : TE} {g : TG} {R : TS} {D : Ends} {σ : L2.St} {H : Hp} (h : te σ H fun x H1 => g x σ H1 (R D)) : tSeq (tAsg te g) R D σ H := h
theorem cr_ne {H : Hp} {c p : Addr} {B : Nat} (h : CR H c B) (n : H p = none) : p ≠ c := fun e => by
  subst e
  obtain ⟨_, _, _, e, _⟩ := h
  rw [e] at n
  cases n
theorem pi_listK {X : Cx} {K : PySem.W.Frag} {tg l : Expr} {tl : TE} (hl : PE X l tl) (e : X.K = K := by rfl) : PI X tg l (iList K tl) := e ▸ pi_list hl
theorem pi_tupK {X : Cx} {K : PySem.W.Frag} {tg l : Expr} {tl : TE} (hl : PE X l tl) (e : X.K = K := by rfl) : PI X tg l (iTup K tl) := e ▸ pi_tup hl
abbrev nI (ks : List Nat) : List V := ks.map fun k : Nat => V.int (k : Int)
theorem nI_ints (ks : List Nat) : nI ks = (ks.map fun k : Nat => (k : Int)).map V.int := by
  unfold nI
  rw [List.map_map]
  rfl
theorem nI_app (a b : List Nat) : nI (a ++ b) = nI a ++ nI b := List.map_append
theorem nI_take {ks : List Nat} {n : Nat} : (nI ks).take n = nI (ks.take n) := by
  unfold nI
  rw [List.map_take]
theorem nI_drop {ks : List Nat} {n : Nat} : (nI ks).drop n = nI (ks.drop n) := by
  unfold nI
  rw [List.map_drop]
theorem dp_nI {K : PySem.W.Frag} {H : Hp} : ∀ p : List Nat, DpAll K H (nI p) (p.map fun k : Nat => PyData.int (k : Int))
  | [] => .nil
  | k :: p => .cons (.int _) (dp_nI p)
theorem dp_ints {K : PySem.W.Frag} {H : Hp} : ∀ p : List Int, DpAll K H (p.map V.int) (p.map PyData.int)
  | [] => .nil
  | k :: p => .cons (.int _) (dp_ints p)
/-- what is no list stays -/
def Tl (H H' : Hp) : Prop := ∀ b o, (∀ xs, o ≠ .lst xs) → H b = some o → H' b = some o
theorem Tl.bt {c : Addr} {H H' : Hp} {B : Nat} (h : CR H c B) (b : Bt c H H') : Tl H H' := fun x o no e => b x o (h.ne e no) e
theorem Tl.same {H H' : Hp} (s : Same H H') : Tl H H' := fun x o _ e => s x o e
theorem Tl.own {H : Hp} {p : Addr} {xs : List V} {o : HO} (h : H p = some (.lst xs)) : Tl H (upd H p o) := fun x u no e => by
  rw [upd_ne (fun q => by rw [q, h] at e; cases e; exact no xs rfl)]
  exact e
theorem Tl.trans {H H1 H2 : Hp} (a : Tl H H1) (b : Tl H1 H2) : Tl H H2 := fun x o n e => b x o n (a x o n e)
theorem sqT_tl {K : PySem.W.Frag} {H H' : Hp} {a : Addr} {xs : List V} (e : Tl H H') (h : SqT K H a xs) : SqT K H' a xs := by
  rcases h with (h | ⟨o, h⟩) | h
  · exact .inl (.inl (e _ _ (fun xs z => by cases z) h))
  · exact .inl (.inr ⟨o, e _ _ (fun xs z => by cases z) h⟩)
  · exact .inr h
mutual
/-- no list within -/
def noL : PyData → Bool
  | .list _ | .dict _ => false
  | .tuple xs => noLs xs
  | _ => true
def noLs : List PyData → Bool
  | [] => true
  | x :: r => noL x && noLs r
end
mutual
theorem dp_tl {K : PySem.W.Frag} {H H' : Hp} (e : Tl H H') : ∀ {v : V} {d : PyData}, noL d = true → Dp K H v d → Dp K H' v d
  | _, _, _, .non => .non
  | _, _, _, .bl b => .bl b
  | _, _, _, .int i => .int i
  | _, _, _, .str x => .str x
  | _, _, n, .lst s a => Bool.noConfusion n
  | _, _, n, .tup s a => .tup (sqT_tl e s) (dps_tl e n a)
theorem dps_tl {K : PySem.W.Frag} {H H' : Hp} (e : Tl H H') : ∀ {vs : List V} {ds : List PyData}, noLs ds = true → DpAll K H vs ds → DpAll K H' vs ds
  | _, _, _, .nil => .nil
  | _, _, n, .cons a r => by
    rw [noLs, Bool.and_eq_true] at n
    exact .cons (dp_tl e n.1 a) (dps_tl e n.2 r)
end
theorem noLs_iff {ds : List PyData} : noLs ds = true ↔ ∀ d ∈ ds, noL d = true := by
  induction ds with
  | nil => exact ⟨fun _ d m => absurd m List.not_mem_nil, fun _ => rfl⟩
  | cons a r ih =>
    rw [noLs, Bool.and_eq_true, ih]
    exact ⟨fun h d m => (List.mem_cons.mp m).elim (fun e => e ▸ h.1) (h.2 d), fun h => ⟨h a List.mem_cons_self, fun d m => h d (List.mem_cons_of_mem _ m)⟩⟩
theorem dps_get {K : PySem.W.Frag} {H : Hp} : ∀ {vs : List V} {ds : List PyData} {i : Nat} {v : V} {d : PyData}, DpAll K H vs ds → vs[i]? = some v → ds[i]? = some d → Dp K H v d
  | _, _, _, _, _, .nil, h, _ => by simp at h
  | _, _, 0, _, _, .cons a r, h, e => by
    cases h
    cases e
    exact a
  | _, _, i + 1, _, _, .cons a r, h, e => dps_get (i := i) r (by simpa using h) (by simpa using e)
theorem dps_take {K : PySem.W.Frag} {H : Hp} : ∀ {vs : List V} {ds : List PyData} (n : Nat), DpAll K H vs ds → DpAll K H (vs.take n) (ds.take n)
  | _, _, 0, _ => by simpa using .nil
  | _, _, n + 1, .nil => .nil
  | _, _, n + 1, .cons a r => .cons a (dps_take n r)
theorem dps_drop {K : PySem.W.Frag} {H : Hp} : ∀ {vs : List V} {ds : List PyData} (n : Nat), DpAll K H vs ds → DpAll K H (vs.drop n) (ds.drop n)
  | _, _, 0, h => h
  | _, _, n + 1, .nil => .nil
  | _, _, n + 1, .cons _ r => dps_drop n r
theorem ints_back {K : PySem.W.Frag} {H : Hp} : ∀ {vs : List V} {ns : List Int}, DpAll K H vs (ns.map PyData.int) → vs = ns.map V.int
  | _, [], .nil => rfl
  | _, n :: r, .cons (.int _) t => by rw [ints_back t]; rfl
theorem layAll_iff {ds : List PyData} : PyData.canLayAll0 ds = true ↔ ∀ d ∈ ds, d.canLay0 = true := by
  induction ds with
  | nil => exact ⟨fun _ d m => absurd m List.not_mem_nil, fun _ => rfl⟩
  | cons a r ih =>
    rw [PyData.canLayAll0, Bool.and_eq_true, ih]
    exact ⟨fun h d m => (List.mem_cons.mp m).elim (fun e => e ▸ h.1) (h.2 d), fun h => ⟨h a List.mem_cons_self, fun d m => h d (List.mem_cons_of_mem _ m)⟩⟩
theorem dpAll_iff {n : Nat} {ds : List PyData} : PyData.depthAll ds ≤ n ↔ ∀ d ∈ ds, d.depth ≤ n := by
  induction ds with
  | nil => exact ⟨fun _ d m => absurd m List.not_mem_nil, fun _ => Nat.zero_le _⟩
  | cons a r ih =>
    rw [show PyData.depthAll (a :: r) = max a.depth (PyData.depthAll r) from rfl, Nat.max_le, ih]
    exact ⟨fun h d m => (List.mem_cons.mp m).elim (fun e => e ▸ h.1) (h.2 d), fun h => ⟨h a List.mem_cons_self, fun d m => h d (List.mem_cons_of_mem _ m)⟩⟩
theorem ixN_nat {n j : Nat} (hj : j < n) : ixN n (j : Int) = some j := by
  unfold ixN
  rw [if_pos (by omega), if_pos (by omega)]
  simp
theorem sh_ints (ns : List Int) : SeqAt.shaped (.list (ns.map PyData.int)) = true := by
  refine shaped_of (layAll_iff.mpr fun d hd => by obtain ⟨i, _, rfl⟩ := List.mem_map.mp hd; rfl) ?_
  have : PyData.depthAll (ns.map PyData.int) ≤ 0 := dpAll_iff.mpr fun d hd => by obtain ⟨i, _, rfl⟩ := List.mem_map.mp hd; exact Nat.le_refl _
  show _ + 1 ≤ 64
  omega
end MZ
/-! numbers and lines read -/
namespace X6
open PySem PySem.Spec PyProof.Rows L2 LK MXo MXi MXp MY MZ MSu TL
theorem num_head (n : Nat) : n ≠ 0 → ∃ c, (numL n).head? = some c ∧ c ≠ 48 := by
  induction n using Nat.strongRecOn with
  | _ n ih =>
    intro h
    by_cases c : n < 10
    · rw [numL_lt c]
      exact ⟨48 + n, rfl, by omega⟩
    · rw [numL_step (by omega)]
      obtain ⟨d, hd, d48⟩ := ih (n / 10) (by omega) (by omega)
      refine ⟨d, ?_, d48⟩
      cases e : numL (n / 10) with
      | nil => exact absurd e (numL_ne _)
      | cons a r =>
        rw [e] at hd
        exact hd
def spRnm : Sp := fun vs H Q _ => ∃ n : Nat, vs = [.str (numS (n : Int))] ∧ n < 10 ^ 9 ∧ ∀ H', Same H H' → Q (.int (n : Int)) H'
def spRns (K : PySem.W.Frag) : Sp := fun vs H Q _ => ∃ (a : Addr) (ns : List Nat), vs = [.ref a] ∧ SqL K H a (ns.map fun n : Nat => V.str (numS (n : Int))) ∧ ns.length ≤ 1000 ∧ (∀ n ∈ ns, n < 10 ^ 9) ∧
  ∀ (p : Addr) (H' : Hp), H p = none → Same H H' → H' p = some (.tup (ns.map fun n : Nat => V.int (n : Int))) → Q (.ref p) H'
def spSpl (K : PySem.W.Frag) : Sp := fun vs H Q _ => ∃ wss : List (List Str), vs = [.str (textD wss)] ∧ (∀ ws ∈ wss, (∀ w ∈ ws, Word w) ∧ ws ≠ [] ∧ ws.length ≤ 1001) ∧ wss.length ≤ 1001 ∧
  ∀ (p D : Addr) (as : List Addr) (H' : Hp), H p = none → Same H H' → H' p = some (.tup [.ref D, .bl true]) → H' D = some (.lst (as.map V.ref)) → as.length = wss.length → (∀ (j : Nat) (a : Addr) (ws : List Str), as[j]? = some a → wss[j]? = some ws → H' a = some (.lst (ws.map V.str))) → Q (.ref p) H'
section
variable {P : Program} {w : World} {K : PySem.W.Frag} {mg : Str → Option Value} {base : Heap}
abbrev sRnm : Stmt := top 22
theorem scRnm : FnScope ["word", "sign"] ["word"] (defScope sRnm) := ⟨rfl, rfl, rfl, by decide +kernel, rfl, by decide +kernel, by decide +kernel⟩
abbrev sRns : Stmt := top 23
theorem scRns : FnScope ["words", "word"] ["words"] (defScope sRns) := ⟨rfl, rfl, rfl, by decide +kernel, rfl, by decide +kernel, by decide +kernel⟩
abbrev sSpl : Stmt := top 24
theorem scSpl : FnScope ["text", "lines", "ended", "line"] ["text"] (defScope sSpl) := ⟨rfl, rfl, rfl, by decide +kernel, rfl, by decide +kernel, by decide +kernel⟩
theorem ok_Rnm {f : Addr} {fd : FuncData} (F : Fun K "read_number" "read_number" sRnm f fd) (B : Bl mg) {tD : Tok} (g_MOST_DIGITS : mg "MOST_DIGITS" = some (.int 9 tD)) : FnOk P w K mg base CX0 2 f fd ["word"] spRnm := by
  refine F.ok scRnm (fun vs H Q E h => ?_) (fun cdv A outer s H vs Q E hr h => ?_)
  · obtain ⟨n, rfl, _⟩ := h
    rfl
  · obtain ⟨n, rfl, hn, k⟩ := h
    refine ⟨_, pss_cons (ps_if (PW.pt (pw_or (pt_not (pt_chain op_le op_le pe_int (pe_callB call_len_str (by rfl) (B "len" (by decide)) (by decide +kernel) (pa_cons (pv 0) pa_nil)) (pe_glob (v := .int 9) rfl g_MOST_DIGITS ⟨_, rfl⟩))) (pw_or1 (pt_not (pt_val (pe_callB (cr_all rfl) (by rfl) (B "all" (by decide)) (by decide +kernel) (pa_cons (pe_lc (own := [("sign", 1)]) (g := gName 1) (tt := tYes) rfl scRnm.nd (pi_str (pv 0)) (blkOk_by (N := ["word", "sign"]) (sc := defScope sRnm) (by decide +kernel)) (fun _ _ _ _ _ => pg_name (i := 1) scRnm.nd rfl (Or.inl rfl)) (fun _ _ _ _ _ => pts_nil) (fun _ _ _ _ _ => pe_chain op_le_str op_le_str pe_str (pv 1) pe_str)) pa_nil))))))) (pss_one (ps_ret pe_non)) pss_nil)
      (pss_one (ps_ret (pe_ifExp (PW.pt (pw_or (pt_cmpR op_eq (pv 0) pe_str (nomark _)) (pw_or1 (pt_cmpR op_ne (pe_ix ix_str (pv 0) pe_int (fun _ _ => rfl)) pe_str (nomark _))))) (pe_callTy call_int_str (by rfl) (B "int" (by decide)) (by decide +kernel) (pa_cons (pv 0) pa_nil)) pe_non))), ?_⟩
    have ty2 : sizeLine = 16777216 := sizeLine_eq
    have wd := word_num hn
    have z9 := wd.ln
    have hi : intText? (numS (n : Int)) = some (n : Int) := int_num (by have := wd.ln; rw [len_tl, tl_numS] at this; omega)
    have dg : ∀ c ∈ (numS (n : Int)).cps.toList, 48 ≤ c ∧ c ≤ 57 := fun c m => numL_digits n c (by rw [← tl_numS]; exact m)
    have z1 : 1 ≤ (numS (n : Int)).length := by
      rw [len_tl, tl_numS]
      exact List.length_pos_iff.mpr (numL_ne n)
    have hd := num_head n
    rw [← tl_numS] at hd
    have one0 : n = 0 → numS (n : Int) = "0" := fun e => by subst e; decide +kernel
    generalize numS (n : Int) = z at wd z9 hi dg z1 hd one0
    refine ⟨_, rfl, z, rfl, by omega, _, _, rfl, rfl, _, rfl, ?_⟩
    refine LK.ifT (decide_eq_true (by omega)) ⟨_, _, rfl, rfl, _, rfl, ?_⟩
    refine LK.ifF (by rw [decide_eq_true (by omega : (z.length : Int) ≤ 9)]; rfl) ⟨_, rfl, z, rfl, fun D nD => ?_⟩
    refine lc_str (x := z) (fun j H' => H' D = some (.lst (List.replicate j (V.bl true))) ∧ Same H H') ⟨upd_same, same_new nD⟩ (fun j c H' hj hh => ⟨rfl, ?_⟩) (fun H' hh => ?_)
    · obtain ⟨hD, s1⟩ := hh
      obtain ⟨d0, d1⟩ := dg c (List.mem_of_getElem? hj)
      have jl : j < z.length := by
        have := (List.getElem?_eq_some_iff.mp hj).1
        have : z.cps.toList.length = z.length := by simp [Str.length]
        omega
      have a1 : decide ([c] < ([48] : List Nat)) = decide (c < 48) := by simp [List.cons_lt_cons_iff]
      have a2 : decide (([57] : List Nat) < [c]) = decide (57 < c) := by simp [List.cons_lt_cons_iff]
      refine ⟨_, rfl, _, _, rfl, rfl, _, rfl, ?_⟩
      show if (!decide ([c] < ([48] : List Nat))) = true then _ else _
      rw [a1, decide_eq_false (by omega)]
      refine LK.ifT rfl ⟨_, _, rfl, rfl, ?_⟩
      have e2 : (!decide (([57] : List Nat) < [c])) = true := by rw [a2, decide_eq_false (by omega)]; rfl
      show ∃ acc, H' D = some (.lst acc) ∧ acc.length < sizeLine ∧ (upd H' D (.lst (acc ++ [V.bl (!decide (([57] : List Nat) < [c]))])) D = some (.lst (List.replicate (j + 1) (V.bl true))) ∧ Same H (upd H' D (.lst (acc ++ [V.bl (!decide (([57] : List Nat) < [c]))]))))
      rw [e2]
      refine ⟨_, hD, by rw [List.length_replicate]; omega, by rw [upd_same, List.replicate_succ'], fun b o e => ?_⟩
      rw [upd_ne (ne_of_none e nD)]
      exact s1 b o e
    obtain ⟨hD, s1⟩ := hh
    refine ⟨D, List.replicate z.cps.toList.length true, rfl, SqL.of (by rw [hD, List.map_replicate]), ?_⟩
    rw [show (List.replicate z.cps.toList.length true).all id = true from List.all_eq_true.mpr fun b m => List.eq_of_mem_replicate m]
    refine ⟨_, rfl, LK.ifF rfl ?_⟩
    refine ⟨_, rfl, rfl, _, rfl, ?_⟩
    by_cases e : V.str z = V.str "0"
    · exact LK.ifT (decide_eq_true e) ⟨_, rfl, z, n, rfl, hi, by omega, k H' s1⟩
    · refine LK.ifF (decide_eq_false e) ?_
      have n0 : n ≠ 0 := fun q => e (by rw [one0 q])
      obtain ⟨c, hc, c48⟩ := hd n0
      refine ⟨_, rfl, _, _, c, rfl, rfl, by omega, ?_, rfl, _, rfl, ?_⟩
      · exact atI_nat (j := 0) (by rw [← List.head?_eq_getElem?]; exact hc)
      · refine LK.ifT ?_ ⟨_, rfl, z, n, rfl, hi, by omega, k H' s1⟩
        rw [decide_eq_false fun q => c48 ?_]
        · rfl
        · injection q with q
          have := congrArg tl q
          rw [show tl "0" = [48] by decide +kernel] at this
          exact List.head_eq_of_cons_eq this
theorem ok_Rns {f : Addr} {fd : FuncData} (F : Fun K "read_numbers" "read_numbers" sRns f fd) (B : Bl mg)
    {f_read_number : Addr} {d_read_number : FuncData} (G_read_number : FnOk P w K mg base CX0 2 f_read_number d_read_number ["word"] spRnm) (g_read_number : mg "read_number" = some (.ref f_read_number)) (k_read_number : PySem.W.keepIn K (.ref f_read_number) = true) (b_read_number : Binds K d_read_number ["word"] []) : FnOk P w K mg base CX0 3 f fd ["words"] (spRns K) := by
  refine F.ok scRns (fun vs H Q E h => ?_) (fun cdv A outer s H vs Q E hr h => ?_)
  · obtain ⟨a, ns, rfl, _⟩ := h
    rfl
  · obtain ⟨a, ns, rfl, hL, ln, hn, k⟩ := h
    refine ⟨_, pss_one (ps_ret (pe_callTy call_tuple_of (by rfl) (B "tuple" (by decide)) (by decide +kernel) (pa_cons (pe_lc (own := [("word", 1)]) (g := gName 1) (tt := tYes) rfl scRns.nd (pi_list (pv 0)) (blkOk_by (N := ["words", "word"]) (sc := defScope sRns) (by decide +kernel)) (fun _ _ _ _ _ => pg_name (i := 1) scRns.nd rfl (Or.inl rfl)) (fun _ _ _ _ _ => pts_nil) (fun _ _ _ _ _ => pe_call (E := E0) G_read_number (hr.mono (by decide)) rfl g_read_number k_read_number b_read_number .nil pass0 (pa_cons (pv 1) pa_nil))) pa_nil))), ?_⟩
    have ty2 : sizeLine = 16777216 := sizeLine_eq
    refine ⟨_, rfl, a, rfl, ⟨_, hL⟩, fun D nD => ?_⟩
    refine lcf_list (ns := ns) (c := fun n : Nat => V.str (numS (n : Int))) (fun _ => true) (fun n : Nat => V.int (n : Int)) hL nD (by omega) (fun i n H1 yes no hi s1 y q => ⟨rfl, ?_⟩) (fun H1 s1 eD => ?_)
    · exact ⟨_, rfl, n, rfl, hn n (List.mem_of_getElem? hi), fun H2 s2 => y rfl _ s2⟩
    rw [List.filter_eq_self.mpr (fun _ _ => rfl)] at eD
    refine ⟨D, _, rfl, .inl ⟨SqL.of eD, fun p np => ?_⟩⟩
    exact k p _ (gone s1 np) (s1.trans (same_new np)) upd_same
theorem ok_Spl {f : Addr} {fd : FuncData} (F : Fun K "split_text" "split_text" sSpl f fd) (B : Bl mg) : FnOk P w K mg base CX0 3 f fd ["text"] (spSpl K) := by
  refine F.ok scSpl (fun vs H Q E h => ?_) (fun cdv A outer s H vs Q E hr h => ?_)
  · obtain ⟨wss, rfl, _⟩ := h
    rfl
  · obtain ⟨wss, rfl, hw, ln, k⟩ := h
    refine ⟨_, pss_cons (ps_if (pt_not (pt_val (pe_callB call_isi (by rfl) (B "isinstance" (by decide)) (by decide +kernel) (pa_cons (pv 0) (pa_cons (pe_bltn (v := .ty "str") rfl (B "str" (by decide)) (by decide +kernel) rfl) pa_nil))))) pss_never pss_nil)
      (pss_cons (ps_set (i := 1) scSpl.nd rfl (Or.inl rfl) (pe_split (pv 0) pe_str))
      (pss_cons (ps_set (i := 2) scSpl.nd rfl (Or.inl rfl) (pe_cmpR op_eq (pe_ix ix_list (pv 1) (pe_un un_neg pe_int) (fun _ _ => rfl)) pe_str (nomark _)))
      (pss_cons (ps_if (pt_val (pv 2)) (pss_one (ps_expr (pe_bm0 PySem.F.plainAttrs_list PySem.F.slot_list_pop PySem.F.type_list_pop mt_pop (pv 1)))) pss_nil)
      (pss_one (ps_ret (pe_tup (pa_cons (pe_lc (own := [("line", 3)]) (g := gName 3) (tt := tYes) rfl scSpl.nd (pi_list (pv 1)) (blkOk_by (N := ["text", "lines", "ended", "line"]) (sc := defScope sSpl) (by decide +kernel)) (fun _ _ _ _ _ => pg_name (i := 3) scSpl.nd rfl (Or.inl rfl)) (fun _ _ _ _ _ => pts_nil) (fun _ _ _ _ _ => pe_split (pv 3) pe_str)) (pa_cons (pv 2) pa_nil)))))))), ?_⟩
    have ty2 : sizeLine = 16777216 := sizeLine_eq
    obtain ⟨_, tl1⟩ := text_len (wss := wss) (fun ws m => ⟨(hw ws m).1, (hw ws m).2.2⟩) ln
    have sp := split_lines (wss := wss) fun ws m => (hw ws m).1
    generalize textD wss = z at tl1 sp
    refine ⟨_, rfl, _, _, _, _, _, rfl, .ty "str", dp_ty (.str z), kit_d (K := K) (H := H) (.str z) "str" (by decide), _, rfl, LK.ifF rfl ?_⟩
    refine ⟨_, rfl, ⟨_, rfl⟩, _, _, rfl, rfl, by decide +kernel, by omega, fun Lp nL => ?_⟩
    rw [sp]
    have t1 := same_new (o := .lst ((wss.map (Txt.join " ") ++ [("" : Str)]).map V.str)) nL
    have eL := upd_same (H := H) (a := Lp) (o := .lst ((wss.map (Txt.join " ") ++ [("" : Str)]).map V.str))
    generalize upd H Lp (.lst ((wss.map (Txt.join " ") ++ [("" : Str)]).map V.str)) = H1 at t1 eL
    rw [List.map_append] at eL
    dsimp only [gName, List.set, tSeq]
    refine ⟨_, rfl, 1, rfl, Lp, _, -1, _, rfl, rfl, SqL.of eL, atI_last _ _, rfl, ?_⟩
    dsimp only [gName, List.set, tSeq]
    rw [show decide (V.str ("" : Str) = V.str "") = true from decide_eq_true rfl]
    refine stJ (fun σ Hn => σ = [some (.str z), some (.ref Lp), some (.bl true), none] ∧ Same H Hn ∧ Hn Lp = some (.lst ((wss.map (Txt.join " ")).map V.str))) (fun D' aft => ?_) ?_
    · refine ⟨_, rfl, _, rfl, LK.ifT rfl ?_⟩
      refine ⟨_, rfl, .inl ⟨rfl, _, SqL.of eL⟩, Lp, _, V.str "", rfl, rfl, eL, by rw [List.length_append, List.map_cons, List.map_nil, List.length_singleton, Nat.add_sub_cancel]; exact List.getElem?_concat_length, ?_⟩
      rw [List.map_cons, List.map_nil, List.dropLast_concat]
      exact aft _ _ ⟨rfl, same_newU t1 nL, upd_same⟩
    rintro σ Hn ⟨rfl, S, eL⟩
    refine ⟨_, rfl, Lp, rfl, ⟨_, SqL.of eL⟩, fun D nD => ?_⟩
    refine lc_list (K := K) (a := Lp) (xs := (wss.map (Txt.join " ")).map V.str) (fun i H' => ∃ as : List Addr, as.length = i ∧ H' D = some (.lst (as.map V.ref)) ∧ Same Hn H' ∧ ∀ (j : Nat) (a : Addr) (ws : List Str), as[j]? = some a → wss[j]? = some ws → H' a = some (.lst (ws.map V.str)) ∧ a ≠ D)
      ⟨[], rfl, upd_same, same_new nD, fun j a ws e => by simp at e⟩ (fun i H' hi hh => by obtain ⟨_, _, _, s, _⟩ := hh; exact SqL.of (s _ _ eL)) (fun i v H' hv hh => ⟨rfl, ?_⟩) (fun H' hh => ?_)
    · obtain ⟨as, al, eD, s, at_⟩ := hh
      rw [List.map_map, List.getElem?_map] at hv
      obtain ⟨ws, hws, rfl⟩ := Option.map_eq_some_iff.mp hv
      obtain ⟨w1, w2, w3⟩ := hw ws (List.mem_of_getElem? hws)
      have ll := (line_len w1 w3).2.1
      have il := (List.getElem?_eq_some_iff.mp hws).1
      refine ⟨_, rfl, ⟨_, rfl⟩, _, _, rfl, rfl, by decide +kernel, by omega, fun q nq => ?_⟩
      rw [split_line w2 w1]
      have tq := same_new (o := .lst (ws.map V.str)) nq
      have qD : q ≠ D := (ne_none eD nq).symm
      refine ⟨_, tq _ _ eD, by rw [List.length_map]; omega, as ++ [q], by rw [List.length_append, al]; rfl, by rw [upd_same, List.map_append]; rfl, fun b o e => ?_, fun j a ws' e e' => ?_⟩
      · rw [upd_ne (ne_none e nD)]
        exact tq _ _ (s _ _ e)
      · by_cases c : j < as.length
        · rw [List.getElem?_append_left c] at e
          obtain ⟨e2, aD⟩ := at_ j a ws' e e'
          refine ⟨?_, aD⟩
          rw [upd_ne aD]
          exact tq _ _ e2
        · rw [List.getElem?_append_right (by omega)] at e
          have j0 : j - as.length = 0 := by
            have := (List.getElem?_eq_some_iff.mp e).1
            rw [List.length_singleton] at this
            omega
          rw [j0] at e
          cases e
          have ji : j = i := by omega
          rw [ji, hws] at e'
          cases e'
          refine ⟨?_, qD⟩
          rw [upd_ne qD, upd_same]
    obtain ⟨as, al, eD, s, at_⟩ := hh
    rw [List.length_map, List.length_map] at al
    refine ⟨_, rfl, by show 2 ≤ sizeLine; decide, fun p np => ?_⟩
    have tp := same_new (o := .tup [.ref D, .bl true]) np
    exact k p D as _ (gone (S.trans s) np) ((S.trans s).trans tp) upd_same (tp _ _ eD) al fun j a ws e e' => tp _ _ (at_ j a ws e e').1
end
end X6
/-! write_cloth -/
namespace X6
open PySem PySem.Spec PyProof.Rows L2 LK MXo MXi MXp MY MZ MSu TL
theorem pe_joinK {X : Cx} {K : PySem.W.Frag} {o e : Expr} {to te : TE} {apos pos : Pos} (ho : PE X o to) (he : PE X e te) (eK : X.K = K := by rfl) (hs : starEach [e] X.env = [(false, eval e X.env)] := by rfl) (hbase : attributeBase o "join" X.env (eval o X.env) = eval o X.env := by rfl) (hline : (apos.endLine == pos.line) = true := by rfl) :
    PE X (.Call (.Attribute o "join" apos) [e] [] pos) (tM1 (fun x xs H Q => ∃ a p, ∃ ys : List Str, x = V.str a ∧ xs = [V.ref p] ∧ (SqL K H p (ys.map V.str) ∨ SqT K H p (ys.map V.str)) ∧ (ys.map fun y => y.length).sum + ys.length * a.length ≤ 16777216 ∧ Q (.str (Txt.join a ys)) H) to te) := by
  subst eK
  exact pe_join ho he hs hbase hline
/-- the words of a loop's line -/
def wordsL (l : Lp) : List Str := l.1 :: l.2.map numS
def wordsD (ls : List Lp) (ms : List Int) : List (List Str) := ls.map wordsL ++ [("=" : Str) :: ms.map numS]
/-- the text of a cloth -/
def clothD (ls : List Lp) (ms : List Int) : Str := textD (wordsD ls ms)
/-- lists of words, one for each line, in a new list -/
structure Rws (H0 H : Hp) (D : Addr) (as : List Addr) (wss : List (List Str)) : Prop where
  eD : H D = some (.lst (as.map V.ref))
  len : as.length = wss.length
  same : Same H0 H
  at_ : ∀ (j : Nat) (a : Addr) (ws : List Str), as[j]? = some a → wss[j]? = some ws → H a = some (.lst (ws.map V.str)) ∧ a ≠ D
  nD : H0 D = none
theorem Rws.nil {H0 : Hp} {D : Addr} (n : H0 D = none) : Rws H0 (upd H0 D (.lst [])) D [] [] := ⟨upd_same, rfl, same_new n, fun j a ws e => by simp at e, n⟩
theorem Rws.more {H0 H H' : Hp} {D q : Addr} {as : List Addr} {wss : List (List Str)} {ws : List Str} (r : Rws H0 H D as wss) (s : Same H H') (e : H' q = some (.lst (ws.map V.str))) (nq : H q = none) :
    ∃ acc, H' D = some (.lst acc) ∧ acc.length = wss.length ∧ Rws H0 (upd H' D (.lst (acc ++ [.ref q]))) D (as ++ [q]) (wss ++ [ws]) := by
  have qD : q ≠ D := (ne_none r.eD nq).symm
  refine ⟨_, s _ _ r.eD, by rw [List.length_map, r.len], by rw [upd_same, List.map_append]; rfl, by rw [List.length_append, List.length_append, r.len]; rfl, fun b o e' => ?_, fun j a ws' e1 e2 => ?_, r.nD⟩
  · rw [upd_ne (ne_none e' r.nD)]
    exact s _ _ (r.same _ _ e')
  · by_cases c : j < as.length
    · rw [List.getElem?_append_left c] at e1
      rw [List.getElem?_append_left (by rw [← r.len]; exact c)] at e2
      obtain ⟨e3, aD⟩ := r.at_ j a ws' e1 e2
      exact ⟨by rw [upd_ne aD]; exact s _ _ e3, aD⟩
    · rw [List.getElem?_append_right (by omega)] at e1
      rw [List.getElem?_append_right (by rw [← r.len]; omega), ← r.len] at e2
      have j0 : j - as.length = 0 := by
        have := (List.getElem?_eq_some_iff.mp e1).1
        rw [List.length_singleton] at this
        omega
      rw [j0] at e1 e2
      cases e1
      cases e2
      exact ⟨by rw [upd_ne qD]; exact e, qD⟩
theorem word_numI {z : Int} (h : 0 ≤ z ∧ z < 10 ^ 9) : Word (numS z) := by
  obtain ⟨n, rfl⟩ := Int.eq_ofNat_of_zero_le h.1
  exact word_num (by have := h.2; omega)
theorem words_ok {ls : List Lp} {ms : List Int} (hw : ∀ l ∈ ls, Word l.1) (hl : ∀ l ∈ ls, l.2.length ≤ 1000 ∧ ∀ z ∈ l.2, 0 ≤ z ∧ z < 10 ^ 9) (hm : ∀ z ∈ ms, 0 ≤ z ∧ z < 10 ^ 9) (ln : ls.length ≤ 1000) (lm : ms.length ≤ 1000) :
    ∀ ws ∈ wordsD ls ms, (∀ w ∈ ws, Word w) ∧ ws.length ≤ 1001 := fun ws m => by
  rcases List.mem_append.mp m with m | m
  · obtain ⟨l, ml, rfl⟩ := List.mem_map.mp m
    refine ⟨fun w mw => ?_, ?_⟩
    · rcases List.mem_cons.mp mw with rfl | mw
      · exact hw l ml
      · obtain ⟨z, mz, rfl⟩ := List.mem_map.mp mw
        exact word_numI ((hl l ml).2 z mz)
    · unfold wordsL
      rw [List.length_cons, List.length_map]
      have := (hl l ml).1
      omega
  · rw [List.mem_singleton.mp m]
    refine ⟨fun w mw => ?_, ?_⟩
    · rcases List.mem_cons.mp mw with rfl | mw
      · exact word_eq
      · obtain ⟨z, mz, rfl⟩ := List.mem_map.mp mw
        exact word_numI (hm z mz)
    · rw [List.length_cons, List.length_map]
      omega
def spWrc (K : PySem.W.Frag) (CC : Addr) : Sp := fun vs H Q _ => ∃ (x : Addr) (ls : List Lp) (ms : List Int), vs = [.ref x] ∧ IsC K CC H x ls ms ∧ ls.length ≤ 1000 ∧ ms.length ≤ 1000 ∧ (∀ l ∈ ls, Word l.1) ∧ (∀ l ∈ ls, l.2.length ≤ 1000 ∧ ∀ z ∈ l.2, 0 ≤ z ∧ z < 10 ^ 9) ∧ (∀ z ∈ ms, 0 ≤ z ∧ z < 10 ^ 9) ∧
  ∀ H', Same H H' → Q (.str (clothD ls ms)) H'
section
variable {P : Program} {w : World} {K : PySem.W.Frag} {mg : Str → Option Value} {base : Heap}
abbrev sWrc : Stmt := top 21
theorem scWrc : FnScope ["cloth", "lines", "thread", "parents", "words", "parent", "loop"] ["cloth"] (defScope sWrc) := ⟨rfl, rfl, rfl, by decide +kernel, rfl, by decide +kernel, by decide +kernel⟩
theorem ok_Wrc {f : Addr} {fd : FuncData} (F : Fun K "write_cloth" "write_cloth" sWrc f fd) (B : Bl mg) {CC : Addr} (R : Pr2 P w K mg base CC) : FnOk P w K mg base CX0 4 f fd ["cloth"] (spWrc K CC) := by
  refine F.ok scWrc (fun vs H Q E h => ?_) (fun cdv A outer s H vs Q E hr h => ?_)
  · obtain ⟨x, ls, ms, rfl, _⟩ := h
    rfl
  · obtain ⟨x, ls, ms, rfl, ic, ln, lm, hw, hl, hm, k⟩ := h
    refine ⟨_, pss_cons (ps_setLc (i := 1) (own := [("thread", 2), ("parents", 3)]) (g := (gTup K 2 (gCons (gName 2) (gCons (gName 3) gNil)))) (tt := tYes) rfl scWrc.nd rfl rfl (sw_true rfl rfl rfl (by decide +kernel)) (pi_list (pe_prop (pv 0) R.cc R.aL R.oL (hr.mono (by decide)) R.bL .nil pass0 (by rfl))) (blkOk_by (N := ["cloth", "lines", "thread", "parents", "words", "parent", "loop"]) (sc := defScope sWrc) (by decide +kernel)) (fun _ _ _ _ _ => pg_tup rfl (pgs_cons (pg_name (i := 2) scWrc.nd rfl (Or.inl rfl)) (pgs_cons (pg_name (i := 3) scWrc.nd rfl (Or.inl rfl)) pgs_nil))) (fun _ _ _ _ _ => pts_nil) (fun _ _ _ _ _ => pe_op op_cat (pe_lst (pa_cons (pv 2) pa_nil)) (pe_lc (own := [("parent", 5)]) (g := gName 5) (tt := tYes) rfl scWrc.nd (MZ.pi_tupK (K := K) (pv 3)) (blkOk_by (N := ["cloth", "lines", "thread", "parents", "words", "parent", "loop"]) (sc := { kind := .function, names := [(".0", .local), ("thread", .local), ("parents", .local)], isGenerator := false, isCoroutine := false }) (by decide +kernel)) (fun _ _ _ _ _ => pg_name (i := 5) scWrc.nd rfl (Or.inl rfl)) (fun _ _ _ _ _ => pts_nil) (fun _ _ _ _ _ => pe_callTy call_str_int (by rfl) (B "str" (by decide)) (by decide +kernel) (pa_cons (pv 5) pa_nil)))))
      (pss_cons (ps_expr (pe_bm PySem.F.plainAttrs_list PySem.F.slot_list_append PySem.F.type_list_append mt_append (pv 1) (pa_cons (pe_op op_cat (pe_lst (pa_cons pe_str pa_nil)) (pe_lc (own := [("loop", 6)]) (g := gName 6) (tt := tYes) rfl scWrc.nd (pi_list (pe_prop (pv 0) R.cc R.aF R.oF (hr.mono (by decide)) R.bF .nil pass0 (by rfl))) (blkOk_by (N := ["cloth", "lines", "thread", "parents", "words", "parent", "loop"]) (sc := defScope sWrc) (by decide +kernel)) (fun _ _ _ _ _ => pg_name (i := 6) scWrc.nd rfl (Or.inl rfl)) (fun _ _ _ _ _ => pts_nil) (fun _ _ _ _ _ => pe_callTy call_str_int (by rfl) (B "str" (by decide)) (by decide +kernel) (pa_cons (pv 6) pa_nil)))) pa_nil)))
      (pss_one (ps_ret (pe_join pe_str (pe_lc (own := [("words", 4)]) (g := gName 4) (tt := tYes) rfl scWrc.nd (pi_list (pv 1)) (blkOk_by (N := ["cloth", "lines", "thread", "parents", "words", "parent", "loop"]) (sc := defScope sWrc) (by decide +kernel)) (fun _ _ _ _ _ => pg_name (i := 4) scWrc.nd rfl (Or.inl rfl)) (fun _ _ _ _ _ => pts_nil) (fun _ _ _ _ _ => pe_op op_add_str (pe_joinK (K := K) pe_str (pv 4)) pe_str)))))), ?_⟩
    have ty2 : sizeLine = 16777216 := sizeLine_eq
    obtain ⟨dx, L0, G0, xs, hx, hL, dL, hG⟩ := id ic
    have xl : xs.length = ls.length := by rw [dps_len dL, List.length_map]
    have big : ∀ i : Int, 0 ≤ i ∧ i < 10 ^ 9 → i.natAbs.log2 < 1920 := fun i h => log_small h.1 h.2
    refine ⟨_, rfl, x, dx, _, rfl, hx, x, dx, L0, _, xs, rfl, hx, R.cc, R.n1, rfl, hL, fun L nL => ?_⟩
    have t1 := same_new (o := .lst xs) nL
    have eL := upd_same (H := H) (a := L) (o := .lst xs)
    generalize upd H L (.lst xs) = H1 at t1 eL
    refine ⟨L, rfl, ⟨_, SqL.of eL⟩, fun D nD => ?_⟩
    have dL := dps_same t1 dL
    refine lc_list (K := K) (a := L) (xs := xs) (fun i H' => ∃ as : List Addr, Rws H1 H' D as ((ls.take i).map wordsL))
      ⟨[], Rws.nil nD⟩ (fun i H' hi hh => by obtain ⟨_, r⟩ := hh; exact SqL.of (r.same _ _ eL)) (fun i v H' hv hh => ?_) (fun H2 hh => ?_)
    · obtain ⟨as, r⟩ := hh
      have il : i < ls.length := by rw [← xl]; exact (List.getElem?_eq_some_iff.mp hv).1
      obtain ⟨v1, d1, q1, q2, q3⟩ := dps_at (dps_same r.same dL) (i := i) (by rw [List.length_map]; omega)
      obtain rfl : v = v1 := Option.some.inj (hv.symm.trans q1)
      rw [List.getElem?_map] at q2
      obtain ⟨l, hl1, rfl⟩ := Option.map_eq_some_iff.mp q2
      obtain ⟨lp, lw⟩ := hl l (List.mem_of_getElem? hl1)
      cases q3 with
      | @tup t0 _ _ st0 da =>
        cases da with
        | cons d1 da =>
          cases d1
          cases da with
          | cons d2 dn =>
            cases dn
            cases d2 with
            | @tup pt _ _ st1 da2 =>
              have ex := dp_ints da2
              subst ex
              refine ⟨t0, _, rfl, st0, rfl, _, _, rfl, _, _, rfl, rfl, rfl, ?_⟩
              refine ⟨_, rfl, by show 1 ≤ sizeLine; decide, fun q1 nq1 => ?_⟩
              have t2 := same_new (o := .lst [.str l.1]) nq1
              have eq1 := upd_same (H := H') (a := q1) (o := .lst [.str l.1])
              generalize upd H' q1 (.lst [.str l.1]) = H3 at t2 eq1
              refine ⟨_, rfl, pt, rfl, ⟨_, same_tup t2 st1⟩, fun M nM => ?_⟩
              refine lcf_tup (ns := l.2) (c := V.int) (fun _ => true) (fun z => V.str (numS z)) (same_tup t2 st1) nM (by omega) (fun j z H4 yes no hz s4 y n => ⟨rfl, ?_⟩) (fun H4 s4 eM => ?_)
              · exact ⟨_, rfl, z, rfl, big z (lw z (List.mem_of_getElem? hz)), y rfl _ (Same.refl _)⟩
              rw [List.filter_eq_self.mpr (fun _ _ => rfl)] at eM
              refine ⟨q1, M, _, _, rfl, rfl, s4 _ _ eq1, eM, by simp only [List.length_map, List.length_singleton]; omega, fun W nW => ?_⟩
              have e : ([V.str l.1] ++ l.2.map fun z => V.str (numS z)) = (wordsL l).map V.str := by
                unfold wordsL
                rw [List.map_cons, List.map_map]
                rfl
              rw [e]
              have t5 := same_new (o := .lst ((wordsL l).map V.str)) nW
              obtain ⟨acc, e1, e2, r2⟩ := r.more (ws := wordsL l) (t2.trans (s4.trans t5)) upd_same (gone (t2.trans s4) nW)
              refine ⟨acc, e1, by rw [e2, List.length_map, List.length_take]; omega, as ++ [W], ?_⟩
              rw [List.take_add_one, hl1, Option.toList_some, List.map_append]
              exact r2
    obtain ⟨as, r⟩ := hh
    rw [xl, List.take_length] at r
    dsimp only [gName, List.set, tSeq]
    have S2 := t1.trans r.same
    refine ⟨_, rfl, .inl ⟨rfl, _, SqL.of r.eD⟩, ?_⟩
    refine ⟨by show 1 ≤ sizeLine; decide, fun q nq => ?_⟩
    have t3 := same_new (o := .lst [.str "="]) nq
    have eq := upd_same (H := H2) (a := q) (o := .lst [.str "="])
    generalize upd H2 q (.lst [.str "="]) = H3 at t3 eq
    have S3 := S2.trans t3
    refine ⟨_, rfl, x, dx, _, rfl, S3 _ _ hx, x, dx, G0, _, _, rfl, S3 _ _ hx, R.cc, R.n2, rfl, S3 _ _ hG, fun G nG => ?_⟩
    have t4 := same_new (o := .lst (ms.map V.int)) nG
    have eG := upd_same (H := H3) (a := G) (o := .lst (ms.map V.int))
    have eq := t4 _ _ eq
    have t24 := t3.trans t4
    generalize upd H3 G (.lst (ms.map V.int)) = H4 at t24 eG eq
    refine ⟨G, rfl, ⟨_, SqL.of eG⟩, fun M nM => ?_⟩
    refine lcf_list (ns := ms) (c := V.int) (fun _ => true) (fun z => V.str (numS z)) (SqL.of eG) nM (by omega) (fun j z H5 yes no hz s5 y n => ⟨rfl, ?_⟩) (fun H5 s5 eM => ?_)
    · exact ⟨_, rfl, z, rfl, big z (hm z (List.mem_of_getElem? hz)), y rfl _ (Same.refl _)⟩
    rw [List.filter_eq_self.mpr (fun _ _ => rfl)] at eM
    refine ⟨q, M, _, _, rfl, rfl, s5 _ _ eq, eM, by simp only [List.length_map, List.length_singleton]; omega, fun W nW => ?_⟩
    rw [show ([V.str "="] ++ ms.map fun z => V.str (numS z)) = ((("=" : Str) :: ms.map numS)).map V.str by rw [List.map_cons, List.map_map]; rfl]
    have t6 := same_new (o := .lst (((("=" : Str) :: ms.map numS)).map V.str)) nW
    obtain ⟨acc, e1, e2, r2⟩ := r.more (ws := ("=" : Str) :: ms.map numS) (t24.trans (s5.trans t6)) upd_same (gone (t24.trans s5) nW)
    refine ⟨D, acc, _, rfl, rfl, e1, by rw [e2, List.length_map]; omega, ?_⟩
    generalize upd (upd H5 W (.lst (((("=" : Str) :: ms.map numS)).map V.str))) D (.lst (acc ++ [V.ref W])) = H6 at r2
    have S6 := t1.trans r2.same
    rw [show ls.map wordsL ++ [("=" : Str) :: ms.map numS] = wordsD ls ms from rfl] at r2
    have wn : (wordsD ls ms).length ≤ 1001 := by
      unfold wordsD
      rw [List.length_append, List.length_map, List.length_singleton]
      omega
    have wok := words_ok hw hl hm ln lm
    obtain ⟨tlen, _⟩ := text_len wok wn
    refine ⟨⟨_, rfl⟩, _, rfl, D, rfl, ⟨_, SqL.of r2.eD⟩, fun N nN => ?_⟩
    refine lc_list (K := K) (a := D) (xs := (as ++ [W]).map V.ref) (fun i H' => Same H6 H' ∧ H' N = some (.lst ((((wordsD ls ms).take i).map lineD).map V.str)))
      ⟨same_new nN, upd_same⟩ (fun i H' hi hh => SqL.of (hh.1 _ _ r2.eD)) (fun i v H' hv hh => ⟨rfl, ?_⟩) (fun H7 hh => ?_)
    · obtain ⟨s, eN⟩ := hh
      rw [List.getElem?_map] at hv
      obtain ⟨a, ha, rfl⟩ := Option.map_eq_some_iff.mp hv
      have il := (List.getElem?_eq_some_iff.mp ha).1
      obtain ⟨ws, hws⟩ : ∃ ws, (wordsD ls ms)[i]? = some ws := ⟨_, List.getElem?_eq_getElem (by rw [← r2.len]; exact il)⟩
      obtain ⟨w1, w2⟩ := wok ws (List.mem_of_getElem? hws)
      obtain ⟨l1, l2, l3⟩ := line_len w1 w2
      refine ⟨⟨_, rfl⟩, _, rfl, _, a, ws, rfl, rfl, .inl (SqL.of (s _ _ (r2.at_ i a ws ha hws).1)), Nat.le_trans l1 (by decide), ?_⟩
      refine ⟨_, _, rfl, rfl, Nat.le_trans (Nat.add_le_add_right l2 _) (by decide +kernel), ?_⟩
      refine ⟨_, eN, by rw [List.length_map, List.length_map, List.length_take]; omega, fun b o e => ?_, ?_⟩
      · rw [upd_ne (ne_none e nN)]
        exact s _ _ e
      · rw [upd_same, List.take_add_one, hws, Option.toList_some, List.map_append, List.map_append]
        rfl
    obtain ⟨s, eN⟩ := hh
    rw [List.length_map, r2.len, List.take_length] at eN
    exact ⟨_, N, _, rfl, rfl, .inl (SqL.of eN), Nat.le_trans tlen (by decide), k H7 (S6.trans s)⟩
end
end X6
/-! read_cloth -/
namespace X6
open PySem PySem.Spec PyProof.Rows L2 LK MXo MXi MXp MXg MY MZ MSu TL
theorem clo_anyT {K : PySem.W.Frag} {CC CF CL : Addr} {H : Hp} {x dx l g : Addr} {Q : VK} {E : XK} {ys : List Str} {ls : List Lp} {fs : List Int} {xs : List V} (cc : Cls K CC) (n1 : NoAttr K CC "_loops") (n2 : NoAttr K CC "_fast") (hl : H l = some (.lst xs)) (dl : DpAll K H xs (ls.map lpD)) (hg : H g = some (.lst (fs.map V.int))) (ok : OkLs ys ls) (hy : ∀ y ∈ ys, Yn y) (hf : OkFs ls.length fs) (ln : ls.length ≤ 1000) (nx : H x = none) (ndx : H dx = none)
    (k : ∀ (H' : Hp) (ms : List Int) (L G : Addr) (xs' : List V), Same H H' → H L = none → H G = none → H' x = some (.ins CC dx [("_loops", .ref L), ("_fast", .ref G)]) → H' L = some (.lst xs') → DpAll K H' xs' (ls.map lpD) → H' G = some (.lst (ms.map V.int)) → ms.Perm fs → ms.Pairwise (· ≤ ·) → Q .non H') : spClo K CC CF CL [.ref x, .ref l, .ref g] (L2.upd (L2.upd H dx (.own x)) x (.ins CC dx [])) Q E := by
  have s0 : Same H (L2.upd (L2.upd H dx (.own x)) x (.ins CC dx [])) := fun b o e => by
    rw [upd_ne (ne_of_none e nx), upd_ne (ne_of_none e ndx)]
    exact e
  have due := due_ok ok hy hf
  have it := lps_items ok hy ln (by decide)
  have gtm : tame (.list (ls.map lpD)) = true := by
    show (decide ((ls.map lpD).length ≤ 1000) && tameAll (ls.map lpD)) = true
    rw [it.tm, Bool.and_true]
    exact decide_eq_true it.ln
  have tf : tame (.list (fs.map PyData.int)) = true := by
    rw [tame, tame_ints, Bool.and_true, List.length_map]
    have := hf.len
    exact decide_eq_true (by omega)
  refine ⟨x, dx, .ref l, .ref g, .list (ls.map lpD), .list (fs.map PyData.int), rfl, upd_same, cc, n1, n2, .lst (SqL.of (s0 _ _ hl)) (dps_same s0 dl), .lst (SqL.of (s0 _ _ hg)) (dp_ints_of _), gtm, it.lay, tf, fun i q => ?_, fun i q => ?_, fun ds ns ms L G H' xs' q ed ee pm pw nL nG LG hx hL hxs hG bx => ?_⟩
  · rw [due] at q
    cases q
  · rw [due] at q
    cases q
  · cases ed
    have e : ns = fs := by
      have e1 : fs.map PyData.int = ns.map PyData.int := by injection ee
      have e2 := congrArg (List.map fun d => match d with | PyData.int i => i | _ => 0) e1
      simp only [List.map_map, Function.comp_def, List.map_id'] at e2
      exact e2.symm
    subst e
    have back : ∀ {p : Addr}, L2.upd (L2.upd H dx (.own x)) x (.ins CC dx []) p = none → H p = none := fun {p} n => MZ.gone s0 n
    exact k H' ms L G xs' (fun b o e => bx b o (ne_of_none e nx) (s0 b o e)) (back nL) (back nG) hx hL (lps_but upd_same bx hxs) hG pm pw
theorem nats_of : ∀ {xs : List Int}, (∀ z ∈ xs, 0 ≤ z) → ∃ ns : List Nat, xs = ns.map fun n : Nat => (n : Int)
  | [], _ => ⟨[], rfl⟩
  | x :: r, h => by
    obtain ⟨ns, e⟩ := nats_of fun z m => h z (List.mem_cons_of_mem _ m)
    obtain ⟨n, en⟩ := Int.eq_ofNat_of_zero_le (h x List.mem_cons_self)
    exact ⟨n :: ns, by rw [List.map_cons, ← e, en]⟩
def spRdc (K : PySem.W.Frag) (CC : Addr) : Sp := fun vs H Q _ => ∃ (ys : List Str) (ls : List Lp) (ms : List Int), vs = [.str (clothD ls ms)] ∧ OkLs ys ls ∧ (∀ y ∈ ys, Yn y) ∧ ls.length ≤ 1000 ∧ OkFs ls.length ms ∧ ms.Pairwise (· < ·) ∧
  ∀ (q : Addr) (H' : Hp), H q = none → Same H H' → (∃ (dx L G : Addr) (xs : List V), H L = none ∧ H G = none ∧ H' q = some (.ins CC dx [("_loops", .ref L), ("_fast", .ref G)]) ∧ H' L = some (.lst xs) ∧ DpAll K H' xs (ls.map lpD) ∧ H' G = some (.lst (ms.map V.int))) → Q (.ref q) H'
section
variable {P : Program} {w : World} {K : PySem.W.Frag} {mg : Str → Option Value} {base : Heap} {CC : Addr}
abbrev sRdc : Stmt := top 25
theorem scRdc : FnScope ["text", "lines", "ended", "loops", "fast", "index", "word", "words", "numbers"] ["text"] (defScope sRdc) := ⟨rfl, rfl, rfl, by decide +kernel, rfl, by decide +kernel, by decide +kernel⟩
theorem ok_Rdc {f : Addr} {fd : FuncData} (F : Fun K "read_cloth" "read_cloth" sRdc f fd) (B : Bl mg) {CF CL : Addr} (C : Cl2 P w K mg base CC CF CL)
    {f_split_text : Addr} {d_split_text : FuncData} (G_split_text : FnOk P w K mg base CX0 3 f_split_text d_split_text ["text"] (spSpl K)) (g_split_text : mg "split_text" = some (.ref f_split_text)) (k_split_text : PySem.W.keepIn K (.ref f_split_text) = true) (b_split_text : Binds K d_split_text ["text"] [])
    {f_read_numbers : Addr} {d_read_numbers : FuncData} (G_read_numbers : FnOk P w K mg base CX0 3 f_read_numbers d_read_numbers ["words"] (spRns K)) (g_read_numbers : mg "read_numbers" = some (.ref f_read_numbers)) (k_read_numbers : PySem.W.keepIn K (.ref f_read_numbers) = true) (b_read_numbers : Binds K d_read_numbers ["words"] [])
    {f_is_parents : Addr} {d_is_parents : FuncData} (G_is_parents : FnOk P w K mg base CX0 3 f_is_parents d_is_parents ["value", "many"] (spPar K)) (g_is_parents : mg "is_parents" = some (.ref f_is_parents)) (k_is_parents : PySem.W.keepIn K (.ref f_is_parents) = true) (b_is_parents : Binds K d_is_parents ["value", "many"] [])
    {f_is_loop : Addr} {d_is_loop : FuncData} (G_is_loop : FnOk P w K mg base CX0 4 f_is_loop d_is_loop ["value", "number"] (spLoop K)) (g_is_loop : mg "is_loop" = some (.ref f_is_loop)) (k_is_loop : PySem.W.keepIn K (.ref f_is_loop) = true) (b_is_loop : Binds K d_is_loop ["value", "number"] []) : FnOk P w K mg base CX0 8 f fd ["text"] (spRdc K CC) := by
  refine F.ok scRdc (fun vs H Q E h => ?_) (fun cdv A outer s H vs Q E hr h => ?_)
  · obtain ⟨ys, ls, ms, rfl, _⟩ := h
    rfl
  · obtain ⟨ys, ls, ms, rfl, ok, hy, ln, okm, up, k⟩ := h
    refine ⟨_, pss_cons (ps_asg (pe_call (E := E0) G_split_text (hr.mono (by decide)) rfl g_split_text k_split_text b_split_text .nil pass0 (pa_cons (pv 0) pa_nil)) (pg_tup rfl (pgs_cons (pg_name (i := 1) scRdc.nd rfl (Or.inl rfl)) (pgs_cons (pg_name (i := 2) scRdc.nd rfl (Or.inl rfl)) pgs_nil))))
      (pss_cons (ps_par (i := 3) (j := 4) rfl scRdc.nd rfl rfl (by decide) rfl rfl (pa_cons (pe_lst pa_nil) (pa_cons pe_non pa_nil)) (by rfl))
      (pss_cons (ps_for PassesOwn.never rfl (pi_enum (by rfl) (B "enumerate" (by decide)) (pa_cons (pv 1) pa_nil)) (pg_tup rfl (pgs_cons (pg_name (i := 5) scRdc.nd rfl (Or.inl rfl)) (pgs_cons (MSt.pg_star rfl (pg_name (i := 6) scRdc.nd rfl (Or.inl rfl)) (pg_name (i := 7) scRdc.nd rfl (Or.inl rfl))) pgs_nil))) (pss_cons (ps_set (i := 8) scRdc.nd rfl (Or.inl rfl) (pe_call (E := E0) G_read_numbers (hr.mono (by decide)) rfl g_read_numbers k_read_numbers b_read_numbers .nil pass0 (pa_cons (pv 7) pa_nil)))
      (pss_cons (ps_if (pt_cmpR op_notN (pv 4) pe_non (nomark _)) pss_never pss_nil)
      (pss_one (ps_if (PW.pt (pw_and (pt_cmpR op_eq (pv 6) pe_str (nomark _)) (pw_and1 (pt_val (pe_call (E := E0) G_is_parents (hr.mono (by decide)) rfl g_is_parents k_is_parents b_is_parents .nil pass0 (pa_cons (pv 8) (pa_cons (pe_callB call_len_seq (by rfl) (B "len" (by decide)) (by decide +kernel) (pa_cons (pv 3) pa_nil)) pa_nil))))))) (pss_one (ps_set (i := 4) scRdc.nd rfl (Or.inl rfl) (pe_callTy call_list_of (by rfl) (B "list" (by decide)) (by decide +kernel) (pa_cons (pv 8) pa_nil)))) (pss_one (ps_if (pt_val (pe_call (E := E0) G_is_loop (hr.mono (by decide)) rfl g_is_loop k_is_loop b_is_loop .nil pass0 (pa_cons (pe_tup (pa_cons (pv 6) (pa_cons (pv 8) pa_nil))) (pa_cons (pv 5) pa_nil)))) (pss_one (ps_expr (pe_bm PySem.F.plainAttrs_list PySem.F.slot_list_append PySem.F.type_list_append mt_append (pv 3) (pa_cons (pe_tup (pa_cons (pv 6) (pa_cons (pv 8) pa_nil))) pa_nil)))) pss_never)))))))
      (pss_cons (ps_if (PW.pt (pw_or (pt_cmpR op_isN (pv 4) pe_non (nomark _)) (pw_or1 (pt_not (pt_val (pv 2)))))) pss_never pss_nil)
      (pss_one (ps_ret (pe_makeS C.mC C.oC (hr.mono (by decide)) rfl C.gC C.bC (fun σ => L2N.passAt none0 σ) (pa_cons (pv 3) (pa_cons (pv 4) pa_nil)))))))), ?_⟩
    have ty2 : sizeLine = 16777216 := sizeLine_eq
    have lm := okm.len
    have hw : ∀ l ∈ ls, Word l.1 := fun l m => by
      obtain ⟨i, hi⟩ := List.getElem?_of_mem m
      exact word_yn (hy _ (ok i l hi).1)
    have hl : ∀ l ∈ ls, l.2.length ≤ 1000 ∧ ∀ z ∈ l.2, 0 ≤ z ∧ z < 10 ^ 9 := fun l m => by
      obtain ⟨i, hi⟩ := List.getElem?_of_mem m
      obtain ⟨_, _, a, b⟩ := ok i l hi
      have il := (List.getElem?_eq_some_iff.mp hi).1
      exact ⟨by omega, fun z mz => by have := b z mz; omega⟩
    have hm : ∀ z ∈ ms, 0 ≤ z ∧ z < 10 ^ 9 := fun z m => by have := okm.2 z m; omega
    have wok := words_ok hw hl hm ln (by omega)
    have wne : ∀ ws ∈ wordsD ls ms, ws ≠ [] := fun ws m => by
      rcases List.mem_append.mp m with m | m
      · obtain ⟨l, _, rfl⟩ := List.mem_map.mp m
        exact List.cons_ne_nil _ _
      · rw [List.mem_singleton.mp m]
        exact List.cons_ne_nil _ _
    have wn : (wordsD ls ms).length = ls.length + 1 := by
      unfold wordsD
      rw [List.length_append, List.length_map, List.length_singleton]
    obtain ⟨_, itm⟩ := Items.iff.mp (lps_items ok hy ln (by decide))
    refine ⟨_, rfl, wordsD ls ms, rfl, fun ws m => ⟨(wok ws m).1, wne ws m, (wok ws m).2⟩, by omega, fun p D as H1 np s1 ep eD al at_ => ?_⟩
    refine ⟨p, _, rfl, SqT.of ep, rfl, ?_⟩
    refine ⟨_, _, rfl, _, _, rfl, rfl, ?_⟩
    dsimp only [gName, gCons, gNil, List.set, tSeq]
    refine ⟨by show 0 ≤ sizeLine; decide, fun J nJ => ?_⟩
    have t2 := same_new (o := .lst []) nJ
    have eJ := upd_same (H := H1) (a := J) (o := .lst [])
    have s2 := s1.trans t2
    have nJ0 := gone s1 nJ
    have eD2 := t2 _ _ eD
    have at2 : ∀ (j : Nat) (a : Addr) (ws : List Str), as[j]? = some a → (wordsD ls ms)[j]? = some ws → upd H1 J (.lst []) a = some (.lst (ws.map V.str)) ∧ a ≠ J := fun j a ws e1 e2 => ⟨t2 _ _ (at_ j a ws e1 e2), ne_none (at_ j a ws e1 e2) nJ⟩
    have DJ : D ≠ J := ne_none eD nJ
    generalize upd H1 J (.lst []) = H2 at eJ s2 eD2 at2
    refine ⟨_, _, rfl, ?_⟩
    dsimp only [gName, List.set, tSeq]
    refine stJ (fun σ Hn => ∃ (Fp : Addr) (zs : List V) (o5 o6 o7 o8 : Option V), σ = [some (.str (clothD ls ms)), some (.ref D), some (.bl true), some (.ref J), some (.ref Fp), o5, o6, o7, o8] ∧ Same H Hn ∧ Hn J = some (.lst zs) ∧ DpAll K Hn zs (ls.map lpD) ∧ Hn Fp = some (.lst (ms.map V.int)) ∧ H Fp = none) (fun D' aft => ?_) ?_
    · refine ⟨_, rfl, D, _, rfl, SqL.of eD2, ?_⟩
      refine for_enum (K := K) (a := D) (xs := as.map V.ref) (fun i σ Hn => ∃ (zs : List V) (o4 o5 o6 o7 o8 : Option V), σ = [some (.str (clothD ls ms)), some (.ref D), some (.bl true), some (.ref J), o4, o5, o6, o7, o8] ∧ Same H Hn ∧ (∀ b o, b ≠ J → H2 b = some o → Hn b = some o) ∧ Hn J = some (.lst zs) ∧ DpAll K Hn zs ((ls.take i).map lpD) ∧
          ((i ≤ ls.length ∧ o4 = some .non) ∨ (i = ls.length + 1 ∧ ∃ Fp, o4 = some (.ref Fp) ∧ Hn Fp = some (.lst (ms.map V.int)) ∧ H Fp = none)))
        ⟨[], _, _, _, _, _, rfl, s2, fun b o _ e => e, eJ, .nil, .inl ⟨Nat.zero_le _, rfl⟩⟩ (fun i σ Hn hI => by obtain ⟨_, _, _, _, _, _, _, _, u, _⟩ := hI; exact SqL.of (u _ _ DJ eD2)) (fun i v T σ Hn hv hI nT => ?_) (fun σ Hn hI => ?_)
      · obtain ⟨zs, o4, o5, o6, o7, o8, rfl, S, u, eJ, dz, st⟩ := hI
        rw [List.getElem?_map] at hv
        obtain ⟨a, ha, rfl⟩ := Option.map_eq_some_iff.mp hv
        have il := (List.getElem?_eq_some_iff.mp ha).1
        have o4n : o4 = some .non := by
          rcases st with ⟨_, e⟩ | ⟨e, _⟩
          · exact e
          · omega
        subst o4n
        clear st
        have tT := same_new (o := .tup [.int (i : Nat), .ref a]) nT
        have eT := upd_same (H := Hn) (a := T) (o := .tup [.int (i : Nat), .ref a])
        have S := S.trans tT
        have u : ∀ b o, b ≠ J → H2 b = some o → upd Hn T (.tup [.int (i : Nat), .ref a]) b = some o := fun b o n e => tT _ _ (u b o n e)
        have eJ := tT _ _ eJ
        have dz := dps_same tT dz
        generalize upd Hn T (.tup [.int (i : Nat), .ref a]) = H3 at S u eJ dz eT
        refine ⟨T, _, rfl, SqT.of eT, rfl, ?_⟩
        refine ⟨_, _, rfl, ?_⟩
        dsimp only [gName]
        refine ⟨_, _, rfl, ?_⟩
        -- the words of line i
        by_cases ci : i < ls.length
        · obtain ⟨l, hli⟩ : ∃ l, ls[i]? = some l := ⟨_, List.getElem?_eq_getElem ci⟩
          have hws : (wordsD ls ms)[i]? = some (wordsL l) := by
            unfold wordsD
            rw [List.getElem?_append_left (by rw [List.length_map]; exact ci), List.getElem?_map, hli]
            rfl
          obtain ⟨ea, aJ⟩ := at2 i a _ ha hws
          have ml := List.mem_of_getElem? hli
          obtain ⟨hl1, hl2⟩ := hl l ml
          obtain ⟨ns, en⟩ := nats_of (fun z m => (hl2 z m).1)
          have ea' := u _ _ aJ ea
          rw [show (wordsL l).map V.str = V.str l.1 :: l.2.map (fun z => V.str (numS z)) by unfold wordsL; rw [List.map_cons, List.map_map]; rfl] at ea'
          refine ⟨a, _, _, rfl, SqL.of ea', fun p np => ?_⟩
          have t4 := same_new (o := .lst (l.2.map fun z => V.str (numS z))) np
          have ep := upd_same (H := H3) (a := p) (o := .lst (l.2.map fun z => V.str (numS z)))
          have S := S.trans t4
          have u : ∀ b o, b ≠ J → H2 b = some o → upd H3 p (.lst (l.2.map fun z => V.str (numS z))) b = some o := fun b o n e => t4 _ _ (u b o n e)
          have eJ := t4 _ _ eJ
          have dz := dps_same t4 dz
          generalize upd H3 p (.lst (l.2.map fun z => V.str (numS z))) = H4 at S u eJ dz ep
          dsimp only [gName, gNil, List.set]
          refine ⟨rfl, ?_⟩
          dsimp only [tSeq]
          refine ⟨_, rfl, p, ns, rfl, SqL.of (by rw [ep, en, List.map_map]; rfl), by have := congrArg List.length en; rw [List.length_map] at this; omega, fun n mn => by have := hl2 (n : Int) (by rw [en]; exact List.mem_map_of_mem mn); omega, fun nt H5 nnt s5 ent => ?_⟩
          have ent : H5 nt = some (.tup (l.2.map V.int)) := by rw [ent, en, List.map_map]; rfl
          have S := S.trans s5
          have u : ∀ b o, b ≠ J → H2 b = some o → H5 b = some o := fun b o n e => s5 _ _ (u b o n e)
          have eJ := s5 _ _ eJ
          have dz := dps_same s5 dz
          clear s5 ep en
          dsimp only [gName, List.set, tSeq]
          refine ⟨_, rfl, rfl, _, rfl, LK.ifF rfl ?_⟩
          have neq : ¬ V.str l.1 = V.str "=" := fun e => by
            injection e with e
            have yn := hy _ (ok i l hli).1
            rw [e] at yn
            have := yn.2.2 61 (by decide +kernel)
            omega
          dsimp only [tNext, tSeq]
          refine ⟨_, rfl, rfl, _, rfl, LK.ifF (decide_eq_false neq) ?_⟩
          refine ⟨_, rfl, _, rfl, by show 2 ≤ sizeLine; decide, fun tq ntq => ?_⟩
          have t6 := same_new (o := .tup [.str l.1, .ref nt]) ntq
          have etq := upd_same (H := H5) (a := tq) (o := .tup [.str l.1, .ref nt])
          have ent := t6 _ _ ent
          have S := S.trans t6
          have u : ∀ b o, b ≠ J → H2 b = some o → upd H5 tq (.tup [.str l.1, .ref nt]) b = some o := fun b o n e => t6 _ _ (u b o n e)
          have eJ := t6 _ _ eJ
          have dz := dps_same t6 dz
          generalize upd H5 tq (.tup [.str l.1, .ref nt]) = H6 at etq ent S u eJ dz
          have lpdp : ∀ {Hk : Hp} {tk : Addr}, Hk tk = some (.tup [.str l.1, .ref nt]) → Hk nt = some (.tup (l.2.map V.int)) → Dp K Hk (.ref tk) (lpD l) := fun a b => .tup (SqT.of a) (.cons (.str _) (.cons (.tup (SqT.of b) (dp_ints_of _)) .nil))
          have good := itm (lpD l) (List.mem_map_of_mem ml)
          refine ⟨_, rfl, .ref tq, lpD l, (i : Nat), rfl, lpdp etq ent, good.1, good.2.1, fun H7 s7 => ⟨_, rfl, LK.ifT (loop_ok ok hy hli) ?_⟩⟩
          have ent := s7 _ _ ent
          have S := S.trans s7
          have u : ∀ b o, b ≠ J → H2 b = some o → H7 b = some o := fun b o n e => s7 _ _ (u b o n e)
          have eJ := s7 _ _ eJ
          have dz := dps_same s7 dz
          refine ⟨_, rfl, .inl ⟨rfl, _, SqL.of eJ⟩, ?_⟩
          refine ⟨_, rfl, _, rfl, by show 2 ≤ sizeLine; decide, fun tr ntr => ?_⟩
          have t8 := same_new (o := .tup [.str l.1, .ref nt]) ntr
          have etr := upd_same (H := H7) (a := tr) (o := .tup [.str l.1, .ref nt])
          have ent := t8 _ _ ent
          have S := S.trans t8
          have u : ∀ b o, b ≠ J → H2 b = some o → upd H7 tr (.tup [.str l.1, .ref nt]) b = some o := fun b o n e => t8 _ _ (u b o n e)
          have rJ : tr ≠ J := (ne_none eJ ntr).symm
          have eJ := t8 _ _ eJ
          have dz := dps_same t8 dz
          generalize upd H7 tr (.tup [.str l.1, .ref nt]) = H8 at etr ent S u eJ dz
          have zl : zs.length = i := by rw [dps_len dz, List.length_map, List.length_take]; omega
          have nJt : nt ≠ J := fun e => by rw [e, eJ] at ent; cases ent
          refine ⟨J, _, _, rfl, rfl, eJ, by rw [zl]; omega, ?_⟩
          refine ⟨zs ++ [.ref tr], _, _, _, _, _, rfl, same_newU S nJ0, fun b o n e => by rw [upd_ne n]; exact u b o n e, upd_same, ?_, .inl ⟨ci, rfl⟩⟩
          rw [List.take_add_one, hli, Option.toList_some, List.map_append]
          refine dps_app (lps_tk (Tk.own (o := .lst (zs ++ [.ref tr])) eJ) dz) (.cons ?_ .nil)
          exact lpdp (by rw [upd_ne rJ]; exact etr) (by rw [upd_ne nJt]; exact ent)
        · have ie : i = ls.length := by omega
          have hws : (wordsD ls ms)[i]? = some (("=" : Str) :: ms.map numS) := by
            unfold wordsD
            rw [List.getElem?_append_right (by rw [List.length_map]; omega), List.length_map, ie, Nat.sub_self]
            rfl
          obtain ⟨ea, aJ⟩ := at2 i a _ ha hws
          obtain ⟨ns, en⟩ := nats_of (fun z m => (hm z m).1)
          have ea' := u _ _ aJ ea
          rw [show (("=" : Str) :: ms.map numS).map V.str = V.str "=" :: ms.map (fun z => V.str (numS z)) by rw [List.map_cons, List.map_map]; rfl] at ea'
          refine ⟨a, _, _, rfl, SqL.of ea', fun p np => ?_⟩
          have t4 := same_new (o := .lst (ms.map fun z => V.str (numS z))) np
          have ep := upd_same (H := H3) (a := p) (o := .lst (ms.map fun z => V.str (numS z)))
          have S := S.trans t4
          have u : ∀ b o, b ≠ J → H2 b = some o → upd H3 p (.lst (ms.map fun z => V.str (numS z))) b = some o := fun b o n e => t4 _ _ (u b o n e)
          have eJ := t4 _ _ eJ
          have dz := dps_same t4 dz
          generalize upd H3 p (.lst (ms.map fun z => V.str (numS z))) = H4 at S u eJ dz ep
          dsimp only [gName, gNil, List.set]
          refine ⟨rfl, ?_⟩
          dsimp only [tSeq]
          refine ⟨_, rfl, p, ns, rfl, SqL.of (by rw [ep, en, List.map_map]; rfl), by have := congrArg List.length en; rw [List.length_map] at this; omega, fun n mn => by have := hm (n : Int) (by rw [en]; exact List.mem_map_of_mem mn); omega, fun nt H5 nnt s5 ent => ?_⟩
          have ent : H5 nt = some (.tup (ms.map V.int)) := by rw [ent, en, List.map_map]; rfl
          have S := S.trans s5
          have u : ∀ b o, b ≠ J → H2 b = some o → H5 b = some o := fun b o n e => s5 _ _ (u b o n e)
          have eJ := s5 _ _ eJ
          have dz := dps_same s5 dz
          clear s5 ep en
          have zl : zs.length = ls.length := by rw [dps_len dz, List.length_map, List.length_take]; omega
          dsimp only [gName, List.set, tSeq]
          refine ⟨_, rfl, rfl, _, rfl, LK.ifF rfl ?_⟩
          dsimp only [tNext, tSeq]
          refine ⟨_, rfl, rfl, _, rfl, LK.ifT (decide_eq_true rfl) ?_⟩
          refine ⟨_, rfl, _, rfl, J, _, rfl, .inl (SqL.of eJ), ?_⟩
          rw [zl]
          refine ⟨.ref nt, .tuple (ms.map .int), (ls.length : Nat), rfl, .tup (SqT.of ent) (dp_ints_of _), ?_, fun H7 s7 => ⟨_, rfl, LK.ifT ?_ ?_⟩⟩
          · rw [tame, tame_ints, Bool.and_true, List.length_map]
            exact decide_eq_true (by omega)
          · show ((ms.map PyData.int).all (isNumD (ls.length : Nat)) && rise (ms.map PyData.int)) = true
            rw [rise_ints up, Bool.and_true, List.all_map, List.all_eq_true]
            exact fun z mz => decide_eq_true (okm.2 z mz)
          have ent := s7 _ _ ent
          have S := S.trans s7
          have u : ∀ b o, b ≠ J → H2 b = some o → H7 b = some o := fun b o n e => s7 _ _ (u b o n e)
          have eJ := s7 _ _ eJ
          have dz := dps_same s7 dz
          refine ⟨_, rfl, nt, _, rfl, .inr (SqT.of ent), fun Fp nF => ?_⟩
          have t8 := same_new (o := .lst (ms.map V.int)) nF
          have nF0 := gone S nF
          have S := S.trans t8
          rw [ie, show ls.take ls.length = ls.take (ls.length + 1) by rw [List.take_length, List.take_of_length_le (by omega)]] at dz
          rw [ie]
          exact ⟨zs, _, _, _, _, _, rfl, S, fun b o n e => t8 _ _ (u b o n e), t8 _ _ eJ, dps_same t8 dz, .inr ⟨rfl, Fp, rfl, upd_same, nF0⟩⟩
      · obtain ⟨zs, o4, o5, o6, o7, o8, rfl, S, u, eJ, dz, st⟩ := hI
        rw [List.length_map, al, wn] at dz st
        rw [List.take_of_length_le (by omega)] at dz
        rcases st with ⟨q, _⟩ | ⟨_, Fp, rfl, eF, nF⟩
        · omega
        · exact aft _ _ ⟨Fp, zs, _, _, _, _, rfl, S, eJ, dz, eF, nF⟩
    rintro σ Hn ⟨Fp, zs, o5, o6, o7, o8, rfl, S, eJ, dz, eF, nF⟩
    dsimp only [tSeq]
    refine ⟨_, rfl, rfl, _, rfl, LK.ifF rfl ?_⟩
    refine ⟨_, rfl, _, rfl, LK.ifF rfl ?_⟩
    dsimp only [tNext, tSeq]
    refine ⟨_, rfl, _, rfl, fun q dq nq ndq ne => ?_⟩
    refine clo_anyT C.cc C.n1 C.n2 eJ dz eF ok hy okm ln nq ndq fun H4 ms' L4 G4 xs4 s4 nL4 nG4 ex eL4 dL4 eG4 pm pw => ⟨rfl, ?_⟩
    have em : ms' = ms := (srt_of pm pw).trans (srt_of (List.Perm.refl _) (up.imp fun h => Int.le_of_lt h)).symm
    rw [em] at eG4
    exact k q H4 (gone S nq) (S.trans s4) ⟨dq, L4, G4, xs4, gone S nL4, gone S nG4, ex, eL4, dL4, eG4⟩
end
end X6
/-! the text by the law -/
namespace X6
open PySem PySem.Spec PyProof.Rows L2 LK MXo MXi MXp MXg MY MZ MSu TL
def spLin (K : PySem.W.Frag) : Sp := fun vs H Q _ => ∃ (a : Addr) (y : Str) (zs : List Int), vs = [.ref a] ∧ SqL K H a (V.str y :: zs.map V.int) ∧ Word y ∧ (∀ z ∈ zs, 0 ≤ z ∧ z < 10 ^ 9) ∧ zs.length ≤ 1000 ∧ ∀ H', Same H H' → Q (.str (lineD (y :: zs.map numS))) H'
def spCtx (K : PySem.W.Frag) : Sp := fun vs H Q _ => ∃ (la fa : Addr) (xs : List V) (ls : List Lp) (fs : List Int), vs = [.ref la, .ref fa] ∧ SqL K H la xs ∧ DpAll K H xs (ls.map lpD) ∧ SqL K H fa (fs.map V.int) ∧ ls.length ≤ 1000 ∧ fs.length ≤ 1000 ∧ (∀ l ∈ ls, Word l.1) ∧ (∀ l ∈ ls, l.2.length ≤ 1000 ∧ ∀ z ∈ l.2, 0 ≤ z ∧ z < 10 ^ 9) ∧ (∀ z ∈ fs, 0 ≤ z ∧ z < 10 ^ 9) ∧
  ∀ H', Same H H' → Q (.str (clothD ls (srt fs))) H'
section
variable {P : Program} {w : World} {K : PySem.W.Frag} {mg : Str → Option Value} {base : Heap}
abbrev sLin : Stmt := top 38
theorem scLin : FnScope ["parts", "part"] ["parts"] (defScope sLin) := ⟨rfl, rfl, rfl, by decide +kernel, rfl, by decide +kernel, by decide +kernel⟩
abbrev sCtx : Stmt := top 39
theorem scCtx : FnScope ["loops_here", "fast_here", "lines_here", "one"] ["loops_here", "fast_here"] (defScope sCtx) := ⟨rfl, rfl, rfl, by decide +kernel, rfl, by decide +kernel, by decide +kernel⟩
theorem ok_Lin {f : Addr} {fd : FuncData} (F : Fun K "_law_line_of" "_law_line_of" sLin f fd) (B : Bl mg) : FnOk P w K mg base CX0 1 f fd ["parts"] (spLin K) := by
  refine F.ok scLin (fun vs H Q E h => ?_) (fun cdv A outer s H vs Q E hr h => ?_)
  · obtain ⟨a, y, zs, rfl, _⟩ := h
    rfl
  · obtain ⟨a, y, zs, rfl, hL, wy, hz, ln, k⟩ := h
    refine ⟨_, pss_one (ps_ret (pe_op op_add_str (pe_join pe_str (pe_lc (own := [("part", 1)]) (g := gName 1) (tt := tYes) rfl scLin.nd (pi_list (pv 0)) (blkOk_by (N := ["parts", "part"]) (sc := defScope sLin) (by decide +kernel)) (fun _ _ _ _ _ => pg_name (i := 1) scLin.nd rfl (Or.inl rfl)) (fun _ _ _ _ _ => pts_nil) (fun _ _ _ _ _ => pe_callTy call_strA (by rfl) (B "str" (by decide)) (by decide +kernel) (pa_cons (pv 1) pa_nil)))) pe_str)), ?_⟩
    have ty2 : sizeLine = 16777216 := sizeLine_eq
    have e0 : (V.str y :: zs.map V.int) = (Sum.inl y :: zs.map Sum.inr : List (Str ⊕ Int)).map (Sum.elim V.str V.int) := by
      rw [List.map_cons, List.map_map]
      rfl
    rw [e0] at hL
    have wok : ∀ w ∈ y :: zs.map numS, Word w := fun w mw => by
      rcases List.mem_cons.mp mw with rfl | mw
      · exact wy
      · obtain ⟨z, mz, rfl⟩ := List.mem_map.mp mw
        exact word_numI (hz z mz)
    obtain ⟨l1, l2, l3⟩ := line_len wok (by rw [List.length_cons, List.length_map]; omega)
    refine ⟨⟨_, rfl⟩, _, rfl, a, rfl, ⟨_, hL⟩, fun D nD => ?_⟩
    refine lcf_list (ns := (Sum.inl y :: zs.map Sum.inr : List (Str ⊕ Int))) (c := Sum.elim V.str V.int) (fun _ => true) (fun s => V.str (Sum.elim id numS s)) hL nD (by rw [List.length_cons, List.length_map]; omega) (fun j s H1 yes no hs s1 y' n => ⟨rfl, ?_⟩) (fun H1 s1 eD => ?_)
    · cases s with
      | inl x => exact ⟨_, rfl, .inl ⟨x, rfl, y' rfl _ (Same.refl _)⟩⟩
      | inr z =>
        have mz : z ∈ zs := by
          have := List.mem_of_getElem? hs
          simpa using this
        exact ⟨_, rfl, .inr ⟨z, rfl, log_small (hz z mz).1 (hz z mz).2, y' rfl _ (Same.refl _)⟩⟩
    rw [List.filter_eq_self.mpr (fun _ _ => rfl), show ((Sum.inl y :: zs.map Sum.inr : List (Str ⊕ Int)).map fun s => V.str (Sum.elim id numS s)) = (y :: zs.map numS).map V.str by rw [List.map_cons, List.map_cons, List.map_map, List.map_map]; rfl] at eD
    refine ⟨_, D, _, rfl, rfl, .inl (SqL.of eD), Nat.le_trans l1 (by decide), ?_⟩
    exact ⟨_, _, rfl, rfl, Nat.le_trans (Nat.add_le_add_right l2 _) (by decide +kernel), k H1 s1⟩
theorem ok_Ctx {f : Addr} {fd : FuncData} (F : Fun K "_law_cloth_text" "_law_cloth_text" sCtx f fd) (B : Bl mg)
    {f__law_line_of : Addr} {d__law_line_of : FuncData} (G__law_line_of : FnOk P w K mg base CX0 1 f__law_line_of d__law_line_of ["parts"] (spLin K)) (g__law_line_of : mg "_law_line_of" = some (.ref f__law_line_of)) (k__law_line_of : PySem.W.keepIn K (.ref f__law_line_of) = true) (b__law_line_of : Binds K d__law_line_of ["parts"] []) : FnOk P w K mg base CX0 2 f fd ["loops_here", "fast_here"] (spCtx K) := by
  refine F.ok scCtx (fun vs H Q E h => ?_) (fun cdv A outer s H vs Q E hr h => ?_)
  · obtain ⟨la, fa, xs, ls, fs, rfl, _⟩ := h
    rfl
  · obtain ⟨la, fa, xs, ls, fs, rfl, hL, dL, hF, ln, lf, hw, hl, hf, k⟩ := h
    refine ⟨_, pss_cons (ps_setLc (i := 2) (own := [("one", 3)]) (g := gName 3) (tt := tYes) rfl scCtx.nd rfl rfl (sw_true rfl rfl rfl (by decide +kernel)) (pi_list (pv 0)) (blkOk_by (N := ["loops_here", "fast_here", "lines_here", "one"]) (sc := defScope sCtx) (by decide +kernel)) (fun _ _ _ _ _ => pg_name (i := 3) scCtx.nd rfl (Or.inl rfl)) (fun _ _ _ _ _ => pts_nil) (fun _ _ _ _ _ => pe_call (E := E0) G__law_line_of (hr.mono (by decide)) rfl g__law_line_of k__law_line_of b__law_line_of .nil pass0 (pa_cons (pe_op op_cat (pe_lst (pa_cons (pe_ix (ixt (K := K)) (pv 3) pe_int (fun _ _ => rfl)) pa_nil)) (pe_callTy (MYd.listK (K := K)) (by rfl) (B "list" (by decide)) (by decide +kernel) (pa_cons (pe_ix (ixt (K := K)) (pv 3) pe_int (fun _ _ => rfl)) pa_nil))) pa_nil)))
      (pss_one (ps_ret (pe_op op_add_str (pe_join pe_str (pv 2)) (pe_call (E := E0) G__law_line_of (hr.mono (by decide)) rfl g__law_line_of k__law_line_of b__law_line_of .nil pass0 (pa_cons (pe_op op_cat (pe_lst (pa_cons pe_str pa_nil)) (pe_callB cr_sortedI (by rfl) (B "sorted" (by decide)) (by decide +kernel) (pa_cons (pv 1) pa_nil))) pa_nil))))), ?_⟩
    have ty2 : sizeLine = 16777216 := sizeLine_eq
    have xl : xs.length = ls.length := by rw [dps_len dL, List.length_map]
    refine ⟨_, rfl, la, rfl, ⟨_, hL⟩, fun D nD => ?_⟩
    refine lc_list (K := K) (a := la) (xs := xs) (fun i H' => Same H H' ∧ H' D = some (.lst (((((ls.take i).map wordsL)).map lineD).map V.str)))
      ⟨same_new nD, upd_same⟩ (fun i H' hi hh => hh.1.seq hL) (fun i v H' hv hh => ⟨rfl, ?_⟩) (fun H1 hh => ?_)
    · obtain ⟨s, eD⟩ := hh
      have il : i < ls.length := by rw [← xl]; exact (List.getElem?_eq_some_iff.mp hv).1
      obtain ⟨v1, d1, q1, q2, q3⟩ := dps_at (dps_same s dL) (i := i) (by rw [List.length_map]; omega)
      obtain rfl : v = v1 := Option.some.inj (hv.symm.trans q1)
      rw [List.getElem?_map] at q2
      obtain ⟨l, hl1, rfl⟩ := Option.map_eq_some_iff.mp q2
      have ml := List.mem_of_getElem? hl1
      obtain ⟨lp, lw⟩ := hl l ml
      cases q3 with
      | @tup t0 _ _ st0 da =>
        cases da with
        | cons d1 da =>
          cases d1
          cases da with
          | cons d2 dn =>
            cases dn
            cases d2 with
            | @tup pt _ _ st1 da2 =>
              have ex := dp_ints da2
              subst ex
              refine ⟨_, rfl, t0, _, 0, _, rfl, rfl, st0, atI_nat (j := 0) rfl, by show 1 ≤ sizeLine; decide, fun q nq => ?_⟩
              have t2 := same_new (o := .lst [.str l.1]) nq
              have eq := upd_same (H := H') (a := q) (o := .lst [.str l.1])
              generalize upd H' q (.lst [.str l.1]) = H3 at t2 eq
              refine ⟨_, rfl, t0, _, 1, _, rfl, rfl, same_tup t2 st0, atI_nat (j := 1) rfl, pt, _, rfl, .inr (same_tup t2 st1), fun M nM => ?_⟩
              have t3 := same_new (o := .lst (l.2.map V.int)) nM
              have eM := upd_same (H := H3) (a := M) (o := .lst (l.2.map V.int))
              have eq := t3 _ _ eq
              have t23 := t2.trans t3
              generalize upd H3 M (.lst (l.2.map V.int)) = H4 at t23 eq eM
              refine ⟨q, M, _, _, rfl, rfl, eq, eM, by simp only [List.length_map, List.length_singleton]; omega, fun W nW => ?_⟩
              have t4 := same_new (o := .lst ([V.str l.1] ++ l.2.map V.int)) nW
              refine ⟨W, l.1, l.2, rfl, SqL.of upd_same, hw l ml, lw, lp, fun H5 s5 => ?_⟩
              have s6 := t23.trans (t4.trans s5)
              refine ⟨_, s6 _ _ eD, by rw [List.length_map, List.length_map, List.length_map, List.length_take]; omega, fun b o e => ?_, ?_⟩
              · rw [upd_ne (ne_none e nD)]
                exact s6 _ _ (s _ _ e)
              · rw [upd_same, List.take_add_one, hl1, Option.toList_some, List.map_append, List.map_append, List.map_append]
                rfl
    obtain ⟨s1, eD⟩ := hh
    rw [xl, List.take_length] at eD
    dsimp only [gName, List.set, tSeq]
    have wok := words_ok hw hl (ms := srt fs) (fun z m => hf z ((srt_perm fs).mem_iff.mp m)) ln (by rw [(srt_perm fs).length_eq]; exact lf)
    have wok1 : ∀ ws ∈ ls.map wordsL, (∀ w ∈ ws, Word w) ∧ ws.length ≤ 1001 := fun ws m => wok ws (List.mem_append_left _ m)
    obtain ⟨tl1, tl2⟩ := text_len wok1 (by rw [List.length_map]; omega)
    have wlast := wok (("=" : Str) :: (srt fs).map numS) (List.mem_append_right _ (List.mem_singleton.mpr rfl))
    obtain ⟨l1, l2, l3⟩ := line_len wlast.1 wlast.2
    refine ⟨⟨_, rfl⟩, _, rfl, _, D, _, rfl, rfl, .inl (SqL.of eD), Nat.le_trans tl1 (by decide), ?_⟩
    refine ⟨by show 1 ≤ sizeLine; decide, fun q nq => ?_⟩
    have t2 := same_new (o := .lst [.str "="]) nq
    have eq := upd_same (H := H1) (a := q) (o := .lst [.str "="])
    have s2 := s1.trans t2
    generalize upd H1 q (.lst [.str "="]) = H2 at s2 eq
    refine ⟨_, rfl, fa, fs, rfl, s2.seq hF, fun ns M perm pw nM => ?_⟩
    rw [srt_of perm pw]
    have t3 := same_new (o := .lst ((srt fs).map V.int)) nM
    have eM := upd_same (H := H2) (a := M) (o := .lst ((srt fs).map V.int))
    have eq := t3 _ _ eq
    have s3 := s2.trans t3
    generalize upd H2 M (.lst ((srt fs).map V.int)) = H3 at s3 eq eM
    refine ⟨q, M, _, _, rfl, rfl, eq, eM, by simp only [List.length_map, List.length_singleton]; rw [(srt_perm fs).length_eq]; omega, fun W nW => ?_⟩
    have t4 := same_new (o := .lst ([V.str "="] ++ (srt fs).map V.int)) nW
    refine ⟨W, "=", srt fs, rfl, SqL.of upd_same, word_eq, fun z m => hf z ((srt_perm fs).mem_iff.mp m), by rw [(srt_perm fs).length_eq]; exact lf, fun H5 s5 => ?_⟩
    refine ⟨_, _, rfl, rfl, Nat.le_trans (Nat.add_le_add tl2 l3) (by decide), ?_⟩
    have e : Txt.join "" ((ls.map wordsL).map lineD) ++ lineD (("=" : Str) :: (srt fs).map numS) = clothD ls (srt fs) := (text_snoc (ls.map wordsL) (("=" : Str) :: (srt fs).map numS)).symm
    rw [e]
    exact k H5 (s3.trans (t4.trans s5))
end
end X6
/-! set(xs) of a list of ints, in the form that sorted(set) wants. -/
namespace MXr
open PySem PySem.Spec PyProof.Rows L2
/-- the empty set as it is made -/
abbrev emp (w : World) : Obj := { cls := .type "set", dict := none, data := .set #[] 0 (.fresh 0 0 (!w.params.followText "set-order")) }
theorem sub_many : ∀ {xs ys : List Int}, xs.Nodup → (∀ x ∈ xs, x ∈ ys) → xs.length ≤ ys.length
  | [], _, _, _ => Nat.zero_le _
  | x :: xs, ys, nd, h => by
    have nd' := List.nodup_cons.mp nd
    have mx := h x List.mem_cons_self
    have r := sub_many (xs := xs) (ys := ys.erase x) nd'.2 fun z hz => (List.mem_erase_of_ne (by rintro rfl; exact nd'.1 hz)).mpr (h z (List.mem_cons_of_mem _ hz))
    have l := List.length_erase_of_mem mx
    have p := List.length_pos_of_mem mx
    rw [List.length_cons]
    omega
/-- how many members there are -/
theorem setR_many {w : World} {h : Heap} {a : Addr} {S : Int → Bool} {n : Nat} (R : SetR w h a S n) {ys : List Int} (k : ∀ z, S z = true → z ∈ ys) : n ≤ ys.length := by
  obtain ⟨_, es, _, _, _, _, _, _, nd, m, _, _, rfl, _⟩ := R
  have := sub_many nd fun z hz => k z ((m z).mpr hz)
  rwa [List.length_map, Array.length_toList] at this
section
variable {P : Program} {w : World} {A : Around} {E : Value → Shared → Prop} {s : Shared}
set_option maxRecDepth 100000 in
theorem call_setL {l : Addr} {its : Array Value} (ns : List Int) {Q : Value → Shared → Prop} (hh : A.handled = none) (hl : s.heap.IsList l its) (hi : IntsAre its.toList ns) (room : ns.length + 1 < scanBound)
    (k : ∀ (h' : Heap) (tk c : Nat), SetR w h' s.heap.objs.size (fun j => decide (j ∈ ns)) c → (∀ b o, s.heap.get? b = some o → h'.get? b = some o) → Q (.ref s.heap.objs.size) { s with heap := h', toks := tk }) :
    wpAny (model P w) A (call (.type "set") [.ref l]) Q E s := by
  have many : its.size = ns.length := by have q := IntsAre.length hi; rwa [Array.length_toList] at q
  obtain ⟨c, tl, hmro⟩ := F.called_set.mro
  have m1 := F.called_set.made; have m2 := F.called_set.sub
  refine wpAny_call (codeAny_of_tree (show wpAny _ _ (callAny (.type "set") _) _ _ _ from ?_))
  refine wpAny_pure ⟨Code.quiet_builtin _ (by decide +kernel), codeAny_builtin F.entry_type_call (show _ from ?_)⟩
  rw [Around.under_plain (weight_type_call_type "set" [Value.ref l] []) rfl]
  have m3 := F.called_set.notType; have m4 := F.called_set.canCreate; have m5 := F.typeCall_set_1 (Value.ref l)
  repeat (any_goals (first | assumption | wp_step))
  refine codeAny_mono (code_set_led1 (.ref l) (E := E) (Q₁ := fun v t => v = .ref s.heap.objs.size ∧ t = { s with heap := s.heap.push (emp w) }) ⟨rfl, rfl⟩) fun r t hr => ?_
  match r, hr with
  | .error e, hr => exact hr
  | .ok (.ret v), hr =>
    obtain ⟨rfl, rfl⟩ := hr
    have at1 : (s.heap.push (emp w)).get? s.heap.objs.size = some (emp w) := Heap.get?_push_size _ rfl
    have ty1 : Shared.TypeIs { s with heap := s.heap.push (emp w) } (.ref s.heap.objs.size) "set" := ⟨_, at1, rfl⟩
    have m6 := F.called_set.init.lookup; have m7 := F.called_set.init.bind (.ref s.heap.objs.size)
    repeat (any_goals (first | assumption | wp_step))
    refine codeAny_mono (codeAny_call_builtin (R := wants (fun v t => v = .none ∧ ∃ h' tk c, t = { s with heap := h', toks := tk } ∧ SetR w h' s.heap.objs.size (fun j => decide (j ∈ ns)) c ∧ (∀ b o, s.heap.get? b = some o → h'.get? b = some o)) E) F.called_set.init.plain F.entry_set_init (check_set_init_1 ty1 ?_)) fun r2 t2 hr2 => ?_
    · obtain ⟨⟨ocls, odict, odata, oslots⟩, hol, hc, nl, hd⟩ := hl
      dsimp only at hc hd; subst hc hd
      have at2 : (s.heap.push (emp w)).get? l = some { cls := .type "list", dict := odict, data := .seq its nl, slots := oslots } := Heap.get?_push_of_some _ hol
      have m8 := F.sub_list_set; have m9 := F.sub_list_frozenset
      have ne1 : (Value.type "list" == Value.type "dict") = false := by decide
      have lst : (s.heap.push (emp w)).IsList l its := ⟨_, at2, rfl, nl, rfl⟩
      unfold Builtin.«set.__init__» noKeywords Builtin.Frozenset.updateFrom
      generalize gPI : pyIter = PI; wp_walk; subst gPI
      refine wpAny_pyIter_list lst (wpAny_bind (wpAny_runValue ?_))
      have lt := Heap.lt_size hol
      have hh3 : A.in1.in1.in1.handled = none := by simp [hh]
      have sz : (s.heap.push (emp w)).objs.size = s.heap.objs.size + 1 := Heap.size_push ..
      have neI : l ≠ (s.heap.push (emp w)).objs.size := by rw [sz]; exact Nat.ne_of_lt (Nat.lt_succ_of_lt lt)
      have off : s.heap.objs.size ∉ [(s.heap.push (emp w)).objs.size, l] := by
        rw [sz]; simp only [List.mem_cons, List.not_mem_nil, or_false, not_or]; exact ⟨Nat.ne_of_lt (Nat.lt_succ_self _), Nat.ne_of_gt lt⟩
      refine set_update_ints ((Walks.list hh3 _ l neI its).toS) s.heap.objs.size off ns many room (fun i v hv => ?_) (its.size - 0) 0 _ (by omega) (Nat.zero_le _) ⟨⟨_, Heap.get?_push_size _ rfl, rfl, rfl⟩, lst.push _⟩ ⟨0, Nat.le_refl 0, setR_new_at (Heap.get?_push_of_some _ at1)⟩ (fun t c hm _ hS => ?_)
      · have hb : i < ns.length := by rw [← many]; exact (Array.getElem?_eq_some_iff.mp hv).1
        obtain ⟨u, e⟩ := PyProof.Rows.IntsAre.int_at hi i v (by rwa [Array.getElem?_toList])
        exact ⟨ns[i], u, List.getElem?_eq_getElem hb, by rw [e, List.getD_eq_getElem?_getD, List.getElem?_eq_getElem hb]; rfl⟩
      · obtain ⟨h', g', d', tk', os'⟩ := t
        obtain rfl : g' = s.gens := hm.gens
        obtain rfl : d' = s.drawn := hm.drawn
        obtain rfl : os' = s.os := hm.os
        refine wpAny_pure (show wpAny _ _ (ret Value.none) _ _ _ from wpAny_pure ⟨rfl, h', tk', c, rfl, hS, fun b o e => ?_⟩)
        have lb := Heap.lt_size e
        refine hm.heap b o ?_ (Heap.get?_push_of_some _ (Heap.get?_push_of_some _ e))
        simp only [List.mem_cons, List.not_mem_nil, or_false, not_or]
        exact ⟨Nat.ne_of_lt lb, by rw [sz]; exact Nat.ne_of_lt (Nat.lt_succ_of_lt lb)⟩
    · match r2, hr2 with
      | .error e, hr2 => exact hr2
      | .ok (.ret v), hr2 =>
        obtain ⟨rfl, h', tk, c, rfl, hS, hk⟩ := hr2
        repeat (any_goals (first | assumption | wp_step))
        exact k _ _ _ hS hk
      | .ok .next, hr2 => exact hr2.elim
      | .ok .brk, hr2 => exact hr2.elim
      | .ok .cont, hr2 => exact hr2.elim
  | .ok .next, hr => exact hr.elim
  | .ok .brk, hr => exact hr.elim
  | .ok .cont, hr => exact hr.elim
end
/-- set(xs): as many members as there are unlike ones -/
def rSetR (K : PySem.W.Frag) (w : World) : List V → Hp → VK → Prop := fun vs H Q => ∃ (l : Addr) (ns : List Int), vs = [V.ref l] ∧ SqL K H l (ns.map V.int) ∧ ns.length ≤ 4000 ∧
  ∀ (p : Addr) (c : Nat), H p = none → (∀ ys : List Int, (∀ z ∈ ns, z ∈ ys) → c ≤ ys.length) → Q (.ref p) (upd H p (SetO w p (fun k => decide (k ∈ ns)) c))
section
variable {X : Cx}
theorem cr_setR {w : World} {K : PySem.W.Frag} (hc : X.calm = true) (e : X.K = K := by rfl) (e2 : X.w = w := by rfl) : CallR X (.type "set") (rSetR K w) := by
  subst e e2
  intro pins s σ H vs us Q I r h
  obtain ⟨l, ns, rfl, hq, hl, q⟩ := h
  rw [Vals.ref1 r]
  obtain ⟨its, rv, pl, hz⟩ := I.list hq
  refine call_setL ns (I.ok.hd hc) pl.isList (by simpa using RZ.intsAre_vals rv) (by unfold scanBound; omega) fun h' tk c hS hk => ?_
  exact ⟨.ref s.heap.objs.size, upd H s.heap.objs.size (SetO X.w s.heap.objs.size (fun k => decide (k ∈ ns)) c), I.laid (t' := tk) (fun b o e => hk b o e) (Nat.le_refl _) (setO_new hS), rfl, q _ _ (I.hok.fresh (Nat.le_refl _)) fun ys h => setR_many hS fun z hz => h z (of_decide_eq_true hz)⟩
theorem cr_sortR {w : World} (hc : X.calm = true) (e2 : X.w = w := by rfl) : CallR X (.builtin "sorted") (rSortedSet w) := by
  subst e2
  exact cr_sortedSet hc
end
end MXr
/-! words and a long cloth -/
namespace X6
open PySem PySem.Spec PyProof.Rows L2 LK MXo MXi MXp MXg MXr MY MZ MSu
def spLcl (K : PySem.W.Frag) : Sp := fun vs H Q _ => ∃ (c ya : Addr) (B : Nat) (ys : List Str), vs = [.ref c, .ref ya] ∧ CR H c B ∧ B + 20000 < 10 ^ 12 ∧ Ys H ya ys ∧ ys ≠ [] ∧ ys.length ≤ 1000 ∧
  ∀ (t L G : Addr) (H' : Hp) (ls : List Lp) (xs : List V) (fs : List Int), H L = none → H G = none → L ≠ G → H' t = some (.tup [.ref L, .ref G]) → H' L = some (.lst xs) → DpAll K H' xs (ls.map lpD) → H' G = some (.lst (fs.map V.int)) → CR H' c (B + 20000) → Bt c H H' → ls.length ≤ 120 → OkLs ys ls → OkFs ls.length fs → Q (.ref t) H'
def spWly : Sp := fun vs H Q _ => ∃ (c ya : Addr) (B : Nat) (ys : List Str), vs = [.ref c, .ref ya] ∧ CR H c B ∧ B + 1000 < 10 ^ 12 ∧ Ys H ya ys ∧ ys ≠ [] ∧ ys.length ≤ 1000 ∧ (∀ y ∈ ys, Yn y) ∧
  ∀ (D : Addr) (H' : Hp) (zs : List Str), H D = none → CR H' c (B + 10) → Bt c H H' → Ys H' D zs → zs.length = ys.length → (∀ y ∈ zs, Yn y) → Q (.ref D) H'
theorem pick_word {e : Int} (e0 : 0 ≤ e) (e1 : e < 8) : ∃ wd : Str, atI [V.str "width", .str "row", .str "pass", .str "chain", .str "cross", .str "none", .str "fast", .str "undo"] e = some (.str wd) ∧ Yn wd := by
  obtain rfl | rfl | rfl | rfl | rfl | rfl | rfl | rfl : e = 0 ∨ e = 1 ∨ e = 2 ∨ e = 3 ∨ e = 4 ∨ e = 5 ∨ e = 6 ∨ e = 7 := by omega
  all_goals exact ⟨_, rfl, by decide +kernel, by decide +kernel, by unfold Lt; decide +kernel⟩
section
variable {P : Program} {w : World} {K : PySem.W.Frag} {mg : Str → Option Value} {base : Heap}
abbrev sWly : Stmt := top 40
theorem scWly : FnScope ["creel", "yarns", "words", "found", "word"] ["creel", "yarns"] (defScope sWly) := ⟨rfl, rfl, rfl, by decide +kernel, rfl, by decide +kernel, by decide +kernel⟩
abbrev sLcl : Stmt := top 41
theorem scLcl : FnScope ["creel", "yarns", "found", "k", "spots", "spot"] ["creel", "yarns"] (defScope sLcl) := ⟨rfl, rfl, rfl, by decide +kernel, rfl, by decide +kernel, by decide +kernel⟩
theorem ok_Wly {f : Addr} {fd : FuncData} (F : Fun K "_law_wordly" "_law_wordly" sWly f fd) (B : Bl mg)
    {f__law_ply : Addr} {d__law_ply : FuncData} (G__law_ply : FnOk P w K mg base CX0 1 f__law_ply d__law_ply ["creel", "span"] spPly) (g__law_ply : mg "_law_ply" = some (.ref f__law_ply)) (k__law_ply : PySem.W.keepIn K (.ref f__law_ply) = true) (b__law_ply : Binds K d__law_ply ["creel", "span"] []) : FnOk P w K mg base CX0 2 f fd ["creel", "yarns"] spWly := by
  refine F.ok scWly (fun vs H Q E h => ?_) (fun cdv A outer s H vs Q E hr h => ?_)
  · obtain ⟨c, ya, bb, ys, rfl, _⟩ := h
    rfl
  · obtain ⟨c, ya, bb, ys, rfl, hc, hB, hy, hne, hyl, hyn, k⟩ := h
    refine ⟨_, pss_cons (ps_par (i := 2) (j := 3) rfl scWly.nd rfl rfl (by decide) rfl rfl (pa_cons (pe_lst (pa_cons pe_str (pa_cons pe_str (pa_cons pe_str (pa_cons pe_str (pa_cons pe_str (pa_cons pe_str (pa_cons pe_str (pa_cons pe_str pa_nil))))))))) (pa_cons (pe_callTy call_list_of (by rfl) (B "list" (by decide)) (by decide +kernel) (pa_cons (pv 1) pa_nil)) pa_nil)) (by rfl))
      (pss_cons (ps_if (pt_cmpR op_eq (pe_call (E := E0) G__law_ply (hr.mono (by decide)) rfl g__law_ply k__law_ply b__law_ply .nil pass0 (pa_cons (pv 0) (pa_cons pe_int pa_nil))) pe_int (nomark _)) (pss_cons (ps_set (i := 4) scWly.nd rfl (Or.inl rfl) (pe_ix ix_list (pv 2) (pe_call (E := E0) G__law_ply (hr.mono (by decide)) rfl g__law_ply k__law_ply b__law_ply .nil pass0 (pa_cons (pv 0) (pa_cons pe_int pa_nil))) (fun _ _ => rfl)))
      (pss_one (ps_asg (pe_ifExp (pt_cmpR op_notIn_seq (pv 4) (pv 3) (by rfl)) (pv 4) (pe_ix ix_list (pv 3) pe_int (fun _ _ => rfl))) (pg_sub (pv 3) pe_int set_list)))) pss_nil)
      (pss_one (ps_ret (pv 3)))), ?_⟩
    have ty2 : sizeLine = 16777216 := sizeLine_eq
    refine ⟨by show 8 ≤ sizeLine; decide, fun W nW => ?_⟩
    have cW : W ≠ c := (hc.fresh nW).symm
    have s1 := same_new (o := .lst [.str "width", .str "row", .str "pass", .str "chain", .str "cross", .str "none", .str "fast", .str "undo"]) nW
    have eW := upd_same (H := H) (a := W) (o := .lst [.str "width", .str "row", .str "pass", .str "chain", .str "cross", .str "none", .str "fast", .str "undo"])
    generalize upd H W (.lst [.str "width", .str "row", .str "pass", .str "chain", .str "cross", .str "none", .str "fast", .str "undo"]) = H1 at s1 eW
    have hy1 := s1 _ _ hy
    refine ⟨_, rfl, ya, _, rfl, .inl (SqL.of hy1), fun D nD => ⟨_, _, rfl, ?_⟩⟩
    have nDH : H D = none := gone s1 nD
    have cD : c ≠ D := (hc.same s1).fresh nD
    have WD' : W ≠ D := ne_of_none eW nD
    have w0 : Wd H (upd H1 D (.lst (ys.map V.str))) c D bb ys := ⟨cD, (hc.same s1).same (same_new nD), Bt.of (s1.trans (same_new nD)), upd_same⟩
    have eW := same_new (o := .lst (ys.map V.str)) nD _ _ eW
    refine ⟨_, rfl, c, 2, bb, rfl, by decide, by decide, w0.2.1, by omega, fun d H2 d0 d1 h2 b2 n2 => ?_⟩
    have w1 := w0.call h2 b2
    have eW := b2 _ _ cW eW
    refine ⟨rfl, _, rfl, ?_⟩
    by_cases hd : ¬ V.int d = V.int 0
    · refine LK.ifF (decide_eq_false hd) ?_
      exact ⟨_, rfl, k D H2 ys nDH (w1.2.1.mono (by omega)) w1.2.2.1 w1.2.2.2 rfl hyn⟩
    refine LK.ifT (decide_eq_true (Decidable.not_not.mp hd)) ?_
    refine ⟨_, rfl, _, rfl, c, 8, _, rfl, by decide, by decide, w1.2.1, by omega, fun e H3 e0 e1 h3 b3 n3 => ?_⟩
    have w2 := w1.call h3 b3
    have eW := b3 _ _ cW eW
    obtain ⟨wd, hwd, ywd⟩ := pick_word e0 e1
    refine ⟨W, _, _, _, rfl, rfl, SqL.of eW, hwd, ?_⟩
    have eD := w2.2.2.2
    have e0 : ∃ z0, ys[0]? = some z0 ∧ Yn z0 := by
      cases ys with
      | nil => exact absurd rfl hne
      | cons a r => exact ⟨a, rfl, hyn a List.mem_cons_self⟩
    obtain ⟨z0, hz0, yz0⟩ := e0
    have fin : ∀ z, Yn z → Q (.ref D) (upd H3 D (.lst ((ys.map V.str).set 0 (.str z)))) := fun z yz => by
      refine k D _ (ys.set 0 z) nDH ((w2.2.1.upd cD.symm).mono (by omega)) (fun b o nb e => ?_) ?_ (by rw [List.length_set]) (fun y m => ?_)
      · rw [upd_ne (ne_of_none e nDH)]
        exact w2.2.2.1 b o nb e
      · show upd H3 D _ D = _
        rw [upd_same, List.map_set]
      · rcases List.mem_or_eq_of_mem_set m with m | rfl
        · exact hyn y m
        · exact yz
    refine ⟨_, rfl, _, rfl, D, _, rfl, .inl (SqL.of eD), rfl, LK.flat_strs ys, _, rfl, ?_⟩
    by_cases hin : (!inV (V.str wd) (ys.map V.str)) = true
    · refine LK.ifT hin ?_
      exact ⟨_, rfl, _, rfl, D, _, 0, 0, rfl, rfl, eD, by rw [List.length_map]; unfold ixN; rw [if_pos (by decide), if_pos (by have := List.length_pos_iff.mpr hne; omega)]; rfl, _, rfl, fin wd ywd⟩
    · refine LK.ifF (by simpa using hin) ?_
      refine ⟨_, rfl, D, _, 0, .str z0, rfl, rfl, SqL.of eD, atI_nat (j := 0) (by rw [List.getElem?_map, hz0]; rfl), ?_⟩
      exact ⟨_, rfl, D, _, 0, 0, rfl, rfl, eD, by rw [List.length_map]; unfold ixN; rw [if_pos (by decide), if_pos (by have := List.length_pos_iff.mpr hne; omega)]; rfl, _, rfl, fin z0 yz0⟩
theorem ok_Lcl {f : Addr} {fd : FuncData} (F : Fun K "_law_long_cloth" "_law_long_cloth" sLcl f fd) (B : Bl mg)
    {f__law_ply : Addr} {d__law_ply : FuncData} (G__law_ply : FnOk P w K mg base CX0 1 f__law_ply d__law_ply ["creel", "span"] spPly) (g__law_ply : mg "_law_ply" = some (.ref f__law_ply)) (k__law_ply : PySem.W.keepIn K (.ref f__law_ply) = true) (b__law_ply : Binds K d__law_ply ["creel", "span"] []) : FnOk P w K mg base CX0 2 f fd ["creel", "yarns"] (spLcl K) := by
  refine F.ok scLcl (fun vs H Q E h => ?_) (fun cdv A outer s H vs Q E hr h => ?_)
  · obtain ⟨c, ya, bb, ys, rfl, _⟩ := h
    rfl
  · obtain ⟨c, ya, bb, ys, rfl, hc, hB, hy, hne, hyl, k⟩ := h
    refine ⟨_, pss_cons (ps_set (i := 2) scLcl.nd rfl (Or.inl rfl) (pe_lst pa_nil))
      (pss_cons (ps_for PassesOwn.never rfl (pi_range1 (by rfl) (B "range" (by decide)) (pa_cons (pe_op op_add pe_int (pe_call (E := E0) G__law_ply (hr.mono (by decide)) rfl g__law_ply k__law_ply b__law_ply .nil pass0 (pa_cons (pv 0) (pa_cons pe_int pa_nil)))) pa_nil)) (pg_name (i := 3) scLcl.nd rfl (Or.inr rfl)) (pss_cons (ps_set (i := 4) scLcl.nd rfl (Or.inl rfl) (pe_slice sl_list (pe_callB (cr_sortR (w := w) rfl) (by rfl) (B "sorted" (by decide)) (by decide +kernel) (pa_cons (pe_callTy (MXr.cr_setR (K := K) (w := w) rfl) (by rfl) (B "set" (by decide)) (by decide +kernel) (pa_cons (pe_lst (pa_cons (pe_callB (call_max2 rfl) (by rfl) (B "max" (by decide)) (by decide +kernel) (pa_cons pe_int (pa_cons (pe_op op_sub (pe_op op_sub (pv 3) pe_int) (pe_call (E := E0) G__law_ply (hr.mono (by decide)) rfl g__law_ply k__law_ply b__law_ply .nil pass0 (pa_cons (pv 0) (pa_cons pe_int pa_nil)))) pa_nil))) (pa_cons (pe_call (E := E0) G__law_ply (hr.mono (by decide)) rfl g__law_ply k__law_ply b__law_ply .nil pass0 (pa_cons (pv 0) (pa_cons (pe_op op_add (pv 3) pe_int) pa_nil))) pa_nil))) pa_nil)) pa_nil)) po_none (po_some (pe_call (E := E0) G__law_ply (hr.mono (by decide)) rfl g__law_ply k__law_ply b__law_ply .nil pass0 (pa_cons (pv 0) (pa_cons pe_int pa_nil))))))
      (pss_one (ps_expr (pe_bm PySem.F.plainAttrs_list PySem.F.slot_list_append PySem.F.type_list_append mt_append (pv 2) (pa_cons (pe_tup (pa_cons (pe_ix ix_list (pv 1) (pe_call (E := E0) G__law_ply (hr.mono (by decide)) rfl g__law_ply k__law_ply b__law_ply .nil pass0 (pa_cons (pv 0) (pa_cons (pe_callB call_len_seq (by rfl) (B "len" (by decide)) (by decide +kernel) (pa_cons (pv 1) pa_nil)) pa_nil))) (fun _ _ => rfl)) (pa_cons (pe_callTy call_tuple_of (by rfl) (B "tuple" (by decide)) (by decide +kernel) (pa_cons (pe_lc (own := [("spot", 5)]) (g := gName 5) rfl scLcl.nd (pi_list (pv 4)) (blkOk_by (N := ["creel", "yarns", "found", "k", "spots", "spot"]) (sc := defScope sLcl) (by decide +kernel)) (fun _ _ _ _ _ => pg_name (i := 5) scLcl.nd rfl (Or.inl rfl)) (fun _ _ _ _ _ => pts_one (pt_cmpR op_lt (pv 5) (pv 3) (nomark _))) (fun _ _ _ _ _ => pv 5)) pa_nil)) pa_nil))) pa_nil))))))
      (pss_one (ps_ret (pe_tup (pa_cons (pv 2) (pa_cons (pe_lc (own := [("k", 3)]) (g := gName 3) rfl scLcl.nd (pi_range1 (by rfl) (B "range" (by decide)) (pa_cons (pe_callB call_len_seq (by rfl) (B "len" (by decide)) (by decide +kernel) (pa_cons (pv 2) pa_nil)) pa_nil)) (blkOk_by (N := ["creel", "yarns", "found", "k", "spots", "spot"]) (sc := defScope sLcl) (by decide +kernel)) (fun _ _ _ _ _ => pg_name (i := 3) scLcl.nd rfl (Or.inl rfl)) (fun _ _ _ _ _ => pts_one (pt_cmpR op_eq (pe_call (E := E0) G__law_ply (hr.mono (by decide)) rfl g__law_ply k__law_ply b__law_ply .nil pass0 (pa_cons (pv 0) (pa_cons pe_int pa_nil))) pe_int (nomark _))) (fun _ _ _ _ _ => pv 3)) pa_nil)))))), ?_⟩
    have ty2 : sizeLine = 16777216 := sizeLine_eq
    have cy : ya ≠ c := by
      intro e
      subst e
      obtain ⟨_, _, _, e, _⟩ := hc
      rw [Ys, e] at hy
      cases ys with
      | nil => exact hne rfl
      | cons a r => simp at hy
    refine ⟨(by show 0 ≤ sizeLine; decide), fun L nL => ?_⟩
    have cL : c ≠ L := hc.fresh nL
    have w0 : Wa K H (upd H L (.lst [])) c L bb [] [] := ⟨cL, hc.upd cL.symm, Bt.of (same_new nL), upd_same, .nil⟩
    refine ⟨_, rfl, c, 21, bb, rfl, by decide, by decide, w0.2.1, by omega, fun d0 H1 d00 d01 h1 b1 n1 => ?_⟩
    have w1 := w0.call h1 b1
    refine ⟨_, _, rfl, rfl, 100 + d0, rfl, by omega, by omega, ?_⟩
    refine for_range (lo := 0) (n := (100 + d0).toNat) (fun i σ H' => ∃ (ls : List Lp) (xs : List V) (o3 o4 o5 : Option V), σ = [some (.ref c), some (.ref ya), some (.ref L), o3, o4, o5] ∧ ls.length = i ∧ OkLs ys ls ∧ Wa K H H' c L (bb + 1 + 4 * i) ls xs)
      ⟨[], [], _, _, _, rfl, rfl, fun k l e => by simp at e, w1⟩ (fun i σ H2 hi hI => ?_) (fun σ H2 hI => ?_)
    · obtain ⟨ls, xs, o3, o4, o5, rfl, hl, ok, hw⟩ := hI
      have yaH : ∀ Hn B ls xs, Wa K H Hn c L B ls xs → Ys Hn ya ys := fun Hn B ls xs h => h.2.2.1 _ _ cy hy
      have i120 : i < 120 := by omega
      refine ⟨_, rfl, _, _, rfl, rfl, _, rfl, c, 4, _, rfl, by decide, by decide, hw.2.1, by omega, fun d1 H3 d10 d11 h3 b3 n3 => ?_⟩
      have hw1 := hw.call h3 b3
      refine ⟨_, _, rfl, rfl, _, _, rfl, _, rfl, _, rfl, _, _, rfl, rfl, c, _, _, rfl, by omega, by omega, hw1.2.1, by omega, fun d2 H4 d20 d21 h4 b4 n4 => ?_⟩
      have hw2 := hw1.call h4 b4
      obtain ⟨m, hm, m0⟩ : ∃ m : Int, (if 0 + (i : Int) - 1 - d1 > 0 then 0 + (i : Int) - 1 - d1 else 0) = m ∧ 0 ≤ m := ⟨_, rfl, by split <;> omega⟩
      rw [hm]
      refine ⟨by show 2 ≤ sizeLine; decide, fun A1 nA1 => ?_⟩
      have hw3 := hw2.new (o := .lst [.int m, .int d2]) nA1
      have eA := upd_same (H := H4) (a := A1) (o := .lst [.int m, .int d2])
      generalize upd H4 A1 (.lst [.int m, .int d2]) = H5 at hw3 eA
      refine ⟨A1, [m, d2], rfl, SqL.of eA, by simp only [List.length_cons, List.length_nil]; decide, fun S1 cn nS1 cle => ?_⟩
      have hw4 := hw3.new (o := SetO w S1 (fun k => decide (k ∈ [m, d2])) cn) nS1
      have eS := upd_same (H := H5) (a := S1) (o := SetO w S1 (fun k => decide (k ∈ [m, d2])) cn)
      generalize upd H5 S1 (SetO w S1 (fun k => decide (k ∈ [m, d2])) cn) = H6 at hw4 eS
      have c2 : cn ≤ 2 := cle [m, d2] fun z hz => hz
      refine ⟨S1, _, cn, rfl, eS, by omega, fun ns q1 pw mem nl nq1 => ?_⟩
      have hw5 := hw4.new (o := .lst (ns.map V.int)) nq1
      have eq1 := upd_same (H := H6) (a := q1) (o := .lst (ns.map V.int))
      have c1 : q1 ≠ c := (hw4.2.1.fresh nq1).symm
      generalize upd H6 q1 (.lst (ns.map V.int)) = H7 at hw5 eq1
      refine ⟨_, rfl, c, 3, _, rfl, by decide, by decide, hw5.2.1, by omega, fun d3 H8 d30 d31 h8 b8 n8 => ?_⟩
      have hw6 := hw5.call h8 b8
      have eq1 := b8 _ _ c1 eq1
      refine ⟨_, rfl, q1, _, rfl, SqL.of eq1, fun p1 np1 => ?_⟩
      have hw7 := hw6.new (o := .lst (cutV (ns.map V.int) none (some d3))) np1
      have ep := upd_same (H := H8) (a := p1) (o := .lst (cutV (ns.map V.int) none (some d3)))
      have c3 : p1 ≠ c := (hw6.2.1.fresh np1).symm
      generalize upd H8 p1 (.lst (cutV (ns.map V.int) none (some d3))) = H9 at hw7 ep
      obtain ⟨n3, rfl⟩ := Int.eq_ofNat_of_zero_le d30
      have ep : H9 p1 = some (.lst ((ns.take n3).map V.int)) := by rw [ep, cut_to, List.map_take]
      generalize hts : ns.take n3 = ts at ep
      have tl2 : ts.length ≤ 2 := by rw [← hts, List.length_take]; omega
      have tpw : ts.Pairwise (· < ·) := by rw [← hts]; exact pw.sublist (List.take_sublist _ _)
      have t0 : ∀ z ∈ ts, 0 ≤ z := fun z hz => by
        rw [← hts] at hz
        have := of_decide_eq_true ((mem z).mp (List.mem_of_mem_take hz))
        simp only [List.mem_cons, List.not_mem_nil, or_false] at this
        omega
      have ya9 := yaH _ _ _ _ hw7
      have y0 : 0 < ys.length := List.length_pos_iff.mpr hne
      refine ⟨_, rfl, .inl ⟨rfl, _, SqL.of hw7.2.2.2.1⟩, ?_⟩
      refine ⟨_, rfl, _, rfl, _, rfl, ya, _, rfl, .inl (SqL.of ya9), ?_⟩
      rw [List.length_map]
      refine ⟨c, _, _, rfl, by omega, by omega, hw7.2.1, by omega, fun d4 H10 d40 d41 h10 b10 n10 => ?_⟩
      have hw8 := hw7.call h10 b10
      have ep := b10 _ _ c3 ep
      obtain ⟨y, hyy⟩ : ∃ y, ys[d4.toNat]? = some y := ⟨ys[d4.toNat]'(by omega), List.getElem?_eq_getElem (by omega)⟩
      have at3 : atI (ys.map V.str) d4 = some (.str y) := by
        have := atI_nat (xs := ys.map V.str) (j := d4.toNat) (v := .str y) (by rw [List.getElem?_map, hyy]; rfl)
        rwa [show ((d4.toNat : Nat) : Int) = d4 by omega] at this
      refine ⟨ya, _, _, _, rfl, rfl, SqL.of (yaH _ _ _ _ hw8), at3, ?_⟩
      refine ⟨_, rfl, p1, rfl, ⟨_, SqL.of ep⟩, fun W nW => ?_⟩
      refine lcf_list (ns := ts) (c := V.int) (fun z => decide (z < 0 + (i : Int))) (fun z => V.int z) (SqL.of ep) nW (by omega) (fun j z H11 yes no hz s1 yy nn => ?_) (fun H11 s11 eW => ?_)
      · refine ⟨rfl, _, rfl, _, rfl, _, _, rfl, rfl, _, rfl, ?_⟩
        by_cases big : z < 0 + (i : Int)
        · exact LK.ifT (decide_eq_true big) ⟨_, rfl, yy (decide_eq_true big) _ (Same.refl _)⟩
        · exact LK.ifF (decide_eq_false big) (nn (decide_eq_false big) _ (Same.refl _))
      have hw9 := hw8.same s11
      generalize hps : ts.filter (fun z => decide (z < 0 + (i : Int))) = ps at eW
      have pl : ps.length ≤ 2 := by rw [← hps]; exact Nat.le_trans (List.length_filter_le _ _) tl2
      have ppw : ps.Pairwise (· < ·) := by rw [← hps]; exact tpw.filter _
      have p0 : ∀ z ∈ ps, 0 ≤ z ∧ z < (i : Int) := fun z hz => by
        rw [← hps] at hz
        obtain ⟨a, b⟩ := List.mem_filter.mp hz
        have := of_decide_eq_true b
        exact ⟨t0 z a, by omega⟩
      refine ⟨W, _, rfl, .inl ⟨SqL.of eW, fun Tp nTp => ?_⟩⟩
      have hwA := hw9.new (o := .tup (ps.map V.int)) nTp
      refine ⟨(by show 2 ≤ sizeLine; decide), fun Tl nTl => ?_⟩
      have hwB := hwA.new (o := .tup [.str y, .ref Tp]) nTl
      have eTp := same_new (o := .tup [.str y, .ref Tp]) nTl _ _ (upd_same (H := H11) (a := Tp) (o := .tup (ps.map V.int)))
      have dl : Dp K _ (.ref Tl) (lpD (y, ps)) := .tup (.inl (.inl (upd_same (o := .tup [.str y, .ref Tp])))) (.cons (.str y) (.cons (.tup (.inl (.inl eTp)) (dp_ints_of ps)) .nil))
      have xl : xs.length = i := by
        rw [dps_len hw.2.2.2.2, List.length_map, hl]
      refine ⟨L, xs, .ref Tl, rfl, rfl, hwB.2.2.2.1, ?_, ls ++ [(y, ps)], xs ++ [.ref Tl], _, _, _, rfl, ?_, ?_, (hwB.app nL dl).mono (by omega)⟩
      · rw [xl]
        exact Nat.lt_of_lt_of_le (by omega : i < 2000) (by decide)
      · rw [List.length_append, hl]
        rfl
      · exact okls_app ok (List.mem_of_getElem? hyy) ppw (by show ps.length ≤ 5; omega) fun p hp => by
          rw [hl]
          exact p0 p hp
    · obtain ⟨ls, xs, o3, o4, o5, rfl, hl, ok, hw⟩ := hI
      have xl : xs.length = ls.length := by rw [dps_len hw.2.2.2.2, List.length_map]
      have ln : ls.length ≤ 120 := by omega
      refine ⟨_, rfl, _, rfl, L, xs, rfl, .inl (SqL.of hw.2.2.2.1), _, rfl, by omega, by omega, fun C1 nC1 => ?_⟩
      have gC := hw.gone nC1
      refine lc_range (lo := 0) (n := xs.length) (fun j H' => ∃ f1 : List Nat, H' C1 = some (.lst (f1.map fun k : Nat => V.int (k : Int))) ∧ f1.Sublist (List.range j) ∧ Wa K H H' c L (bb + 1 + 4 * (100 + d0).toNat + j) ls xs)
        ⟨[], upd_same, List.nil_sublist _, hw.new nC1⟩ (fun j H3 hj hh => ⟨rfl, ?_⟩) (fun H3 hh => ?_)
      · obtain ⟨f1, hC, sl, hw1⟩ := hh
        refine ⟨_, rfl, c, 5, _, rfl, by decide, by decide, hw1.2.1, by omega, fun d H4 d0' d1' h4 b4 n4 => ⟨rfl, _, rfl, ?_⟩⟩
        have hw2 := hw1.call h4 b4
        have hC4 := b4 _ _ gC.2.1 hC
        by_cases big : V.int d = V.int 0
        · refine LK.ifT (decide_eq_true big) ⟨_, rfl, _, hC4, ?_, f1 ++ [j], ?_, ?_, hw2.own gC hC4⟩
          · rw [List.length_map]
            have := sl.length_le
            rw [List.length_range] at this
            exact Nat.lt_of_lt_of_le (by omega : f1.length < 2000) (by decide)
          · rw [upd_same, List.map_append]
            show some (HO.lst (_ ++ [V.int (0 + (j : Int))])) = some (HO.lst (_ ++ [V.int (j : Int)]))
            rw [Int.zero_add]
          · rw [List.range_succ]
            exact sl.append (List.Sublist.refl _)
        · refine LK.ifF (decide_eq_false big) ⟨f1, hC4, ?_, hw2⟩
          rw [List.range_succ]
          exact sl.trans (List.sublist_append_left _ _)
      · obtain ⟨f1, hC, sl, hw1⟩ := hh
        refine ⟨(by show 2 ≤ sizeLine; decide), fun Tt nTt => ?_⟩
        have hw2 := hw1.new (o := .tup [.ref L, .ref C1]) nTt
        have hR : upd H3 Tt (.tup [.ref L, .ref C1]) C1 = some (.lst ((f1.map fun k : Nat => (k : Int)).map V.int)) := by
          rw [same_new nTt _ _ hC, List.map_map]
          rfl
        refine k Tt L C1 _ ls xs _ nL gC.1 gC.2.2.symm upd_same hw2.2.2.2.1 hw2.2.2.2.2 hR (hw2.2.1.mono (by omega)) hw2.2.2.1 ln ok ⟨?_, fun x hx => ?_⟩
        · have nd : f1.Nodup := List.nodup_range.sublist sl
          exact List.Pairwise.map _ (fun a b h => by omega) nd
        · obtain ⟨q, hq, rfl⟩ := List.mem_map.mp hx
          have := List.mem_range.mp (sl.subset hq)
          omega
end
end X6
/-! texts as data; equal cloths -/
namespace X6
open PySem PySem.Spec PyProof.Rows L2 LK MXo MXi MXp MXg MY MZ MSu TL
/-- only code points -/
def Lo (l : List Nat) : Prop := ∀ c ∈ l, c < 1114112
theorem lo_join {S : List Nat} {xs : List (List Nat)} (h : Lo S) (hx : ∀ x ∈ xs, Lo x) : Lo (joinL S xs) := fun c m => by
  rcases joinL_in m with m | ⟨x, mx, m⟩
  · exact h c m
  · exact hx x mx c m
theorem lo_line {ws : List Str} (h : ∀ w ∈ ws, Lo (tl w)) : Lo (tl (lineD ws)) := fun c m => by
  unfold lineD at m
  rw [TL.tl_append, tl_nl] at m
  rcases List.mem_append.mp m with m | m
  · rw [tl_joinD, tl_sp] at m
    refine lo_join (fun c m => ?_) (fun x mx => ?_) c m
    · rw [List.mem_singleton.mp m]
      decide
    · obtain ⟨w, mw, rfl⟩ := List.mem_map.mp mx
      exact h w mw
  · rw [List.mem_singleton.mp m]
    decide
theorem lo_text {wss : List (List Str)} (h : ∀ ws ∈ wss, ∀ w ∈ ws, Lo (tl w)) : Lo (tl (MSu.textD wss)) := fun c m => by
  unfold MSu.textD at m
  rw [tl_joinD, tl_e] at m
  refine lo_join (fun c m => absurd m List.not_mem_nil) (fun x mx => ?_) c m
  rw [List.map_map] at mx
  obtain ⟨ws, mw, rfl⟩ := List.mem_map.mp mx
  exact lo_line (h ws mw)
theorem lo_yn {y : Str} (h : Yn y) : Lo (tl y) := fun c m => by
  have := (h.2.2 c m).2
  omega
theorem lo_num {z : Int} (h : 0 ≤ z) : Lo (tl (numS z)) := fun c m => by
  obtain ⟨n, rfl⟩ := Int.eq_ofNat_of_zero_le h
  rw [tl_numS] at m
  have := numL_digits n c m
  omega
theorem lay_tl {y : Str} (h : Lo (tl y)) : (PyData.str y).canLay0 = true := by
  show y.cps.all (· < 0x110000) = true
  rw [Array.all_eq_true_iff_forall_mem]
  intro c hc
  exact decide_eq_true (h c (Array.mem_toList_iff.mpr hc))
theorem lay_cloth {ls : List Lp} {ms : List Int} (hy : ∀ l ∈ ls, Yn l.1) (hp : ∀ l ∈ ls, ∀ z ∈ l.2, 0 ≤ z) (hm : ∀ z ∈ ms, 0 ≤ z) : (PyData.str (clothD ls ms)).canLay0 = true := by
  refine lay_tl (lo_text fun ws m w mw => ?_)
  rcases List.mem_append.mp m with m | m
  · obtain ⟨l, ml, rfl⟩ := List.mem_map.mp m
    rcases List.mem_cons.mp mw with rfl | mw
    · exact lo_yn (hy l ml)
    · obtain ⟨z, mz, rfl⟩ := List.mem_map.mp mw
      exact lo_num (hp l ml z mz)
  · rw [List.mem_singleton.mp m] at mw
    rcases List.mem_cons.mp mw with rfl | mw
    · intro c m
      rw [show tl "=" = [61] by decide +kernel] at m
      rw [List.mem_singleton.mp m]
      decide
    · obtain ⟨z, mz, rfl⟩ := List.mem_map.mp mw
      exact lo_num (hm z mz)
/-- what is known of a cloth that is drawn -/
structure Drn (ls : List Lp) (fs : List Int) : Prop where
  ln : ls.length ≤ 1000
  lf : fs.length ≤ 1000
  yn : ∀ l ∈ ls, Yn l.1
  wd : ∀ l ∈ ls, Word l.1
  par : ∀ l ∈ ls, l.2.length ≤ 1000 ∧ ∀ z ∈ l.2, 0 ≤ z ∧ z < 10 ^ 9
  fst : ∀ z ∈ fs, 0 ≤ z ∧ z < 10 ^ 9
  it : Items 1000 (ls.map lpD)
theorem drn_of {ys : List Str} {ls : List Lp} {fs : List Int} (ok : OkLs ys ls) (hy : ∀ y ∈ ys, Yn y) (ln : ls.length ≤ 1000) (hf : OkFs ls.length fs) : Drn ls fs := by
  have yn : ∀ l ∈ ls, Yn l.1 := fun l m => by
    obtain ⟨i, hi⟩ := List.getElem?_of_mem m
    exact hy _ (ok i l hi).1
  refine ⟨ln, Nat.le_trans hf.len ln, yn, fun l m => word_yn (yn l m), fun l m => ?_, fun z m => ?_, lps_items ok hy ln (by decide)⟩
  · obtain ⟨i, hi⟩ := List.getElem?_of_mem m
    obtain ⟨_, _, h5, hb⟩ := ok i l hi
    have il := (List.getElem?_eq_some_iff.mp hi).1
    exact ⟨by omega, fun z mz => by have := hb z mz; omega⟩
  · have := hf.2 z m
    omega
theorem Drn.data {ls : List Lp} {fs : List Int} (h : Drn ls fs) : SeqAt.shaped (.list (ls.map lpD)) = true ∧ (PyData.list (ls.map lpD)).canLay0 = true ∧ (PyData.list (ls.map lpD)).depth < 6 ∧ (PyData.list (ls.map lpD)).depth ≤ 60 ∧ few (.list (ls.map lpD)) = true := by
  obtain ⟨_, al⟩ := Items.iff.mp h.it
  have lay : (PyData.list (ls.map lpD)).canLay0 = true := layAll_iff.mpr fun d hd => (al d hd).2.1
  obtain ⟨fw, dp⟩ := lps_all (ls := ls) fun l m => (h.par l m).1
  refine ⟨shaped_of lay ?_, lay, ?_, ?_, ?_⟩
  · show _ + 1 ≤ 64
    omega
  · show _ + 1 < 6
    omega
  · show _ + 1 ≤ 60
    omega
  · show (decide _ && fewAll _) = true
    rw [fw, Bool.and_true, List.length_map]
    have := h.ln
    exact decide_eq_true (by omega)
theorem ints_data {fs : List Int} (h : fs.length ≤ 1000) : SeqAt.shaped (.list (fs.map PyData.int)) = true ∧ (PyData.list (fs.map PyData.int)).canLay0 = true ∧ (PyData.list (fs.map PyData.int)).depth < 6 ∧ (PyData.list (fs.map PyData.int)).depth ≤ 60 ∧ few (.list (fs.map PyData.int)) = true := by
  have dp : PyData.depthAll (fs.map PyData.int) ≤ 0 := dpAll_iff.mpr fun d hd => by obtain ⟨i, _, rfl⟩ := List.mem_map.mp hd; exact Nat.le_refl _
  refine ⟨sh_ints fs, layAll_iff.mpr fun d hd => by obtain ⟨i, _, rfl⟩ := List.mem_map.mp hd; rfl, by show _ + 1 < 6; omega, by show _ + 1 ≤ 60; omega, ?_⟩
  unfold few
  rw [few_ints, Bool.and_true, List.length_map]
  exact decide_eq_true (by omega)
/-- two cloths of the same loops and fast ones -/
def SameC (K : PySem.W.Frag) (CC : Addr) : Addr → Addr → Hp → Prop := fun x y H => ∃ (ls : List Lp) (ms : List Int), SeqAt.shaped (.list (ls.map lpD)) = true ∧ IsC K CC H x ls ms ∧ IsC K CC H y ls ms
/-- the own == -/
structure CloQ (P : Program) (w : World) (K : PySem.W.Frag) (mg : Str → Option Value) (base : Heap) (CC : Addr) where
  fQ : Addr
  dQ : FuncData
  oQ : FnOk P w K mg base CX0 1 fQ dQ ["self", "other"] (spEq (SameC K CC))
  eq : PySem.W.findIn K (.ref CC) "__eq__" = some (some (.ref fQ))
  eqF : PySem.W.isFn K (.ref fQ) = true
  bQ : Binds K dQ ["self", "other"] []
theorem lay_sh {d : PyData} (h : SeqAt.shaped d = true) : d.canLay0 = true := by
  have : (d.canLay0 && decide (d.depth ≤ 64)) = true := h
  rw [Bool.and_eq_true] at this
  exact this.1
section
variable {P : Program} {w : World} {K : PySem.W.Frag} {mg : Str → Option Value} {base : Heap}

theorem ok_EqC {f CC : Addr} {fd : FuncData} (F : Fun K "__eq__" "Cloth.__eq__" sEq f fd) (B : Bl mg) (gC : mg "Cloth" = some (.ref CC)) (cc : Cls K CC) (n1 : NoAttr K CC "_loops") (n2 : NoAttr K CC "_fast") (it : InsTy K CC) : FnOk P w K mg base CX0 1 f fd ["self", "other"] (spEq (SameC K CC)) := by
  refine F.ok scEq (fun vs H Q E h => ?_) (fun cdv A outer s H vs Q E hr h => ?_)
  · obtain ⟨a, b, rfl, _⟩ := h
    rfl
  · obtain ⟨a, b, rfl, ⟨ls, ms, sh, ⟨dx, L, G, xs, hx, hL, dL, hG⟩, dy, M, N, ys, hy, hM, dM, hN⟩, k⟩ := h
    refine ⟨_, pss_one (ps_ret (pe_and (pe_callB call_isi (by rfl) (B "isinstance" (by decide)) (by decide +kernel) (pa_cons (pv 1) (pa_cons (pe_glob rfl gC (v := .ref CC) rfl) pa_nil))) (pe_and (pe_cmpR (op_eqD hr.units) (pe_fld (pv 0) rfl) (pe_fld (pv 1) rfl) (nomark _)) (pe_one (pe_cmpR (op_eqD hr.units) (pe_fld (pv 0) rfl) (pe_fld (pv 1) rfl) (nomark _)))))), ?_⟩
    refine ⟨_, rfl, _, _, _, _, true, rfl, .own CC, it.ty hy, it.own, _, rfl, LK.ifT rfl ?_⟩
    refine ⟨_, rfl, a, CC, dx, _, _, rfl, hx, cc, n1, rfl, _, rfl, b, CC, dy, _, _, rfl, hy, cc, n1, rfl, .list _, .list _, .lst (SqL.of hL) dL, .lst (SqL.of hM) dM, sh, sh, _, rfl, LK.ifT (SeqAt.eqv_refl _ (lay_sh sh)) ?_⟩
    refine ⟨_, rfl, a, CC, dx, _, _, rfl, hx, cc, n2, rfl, _, rfl, b, CC, dy, _, _, rfl, hy, cc, n2, rfl, .list _, .list _, .lst (SqL.of hG) (dp_ints_of ms), .lst (SqL.of hN) (dp_ints_of ms), sh_ints ms, sh_ints ms, ?_⟩
    have := k H Ext.rfl'
    rwa [← SeqAt.eqv_refl (.list (ms.map PyData.int)) (lay_sh (sh_ints ms))] at this
end
end X6
/-! Charts as data. -/
namespace MZ
open PySem PySem.Spec PyProof.Rows L2 LK MY
/-- what a stitch takes and draws -/
abbrev Sti := Nat × Nat
def stD (s : Sti) : PyData := .tuple [.int (s.1 : Int), .int (s.2 : Int)]
structure Rw where
  nm : Str
  off : Nat
  sts : List Sti
def rwD (r : Rw) : PyData := .tuple [.str r.nm, .int (r.off : Int), .tuple (r.sts.map stD)]
def tks (ss : List Sti) : Nat := (ss.map fun s => s.1).sum
def drs (ss : List Sti) : Nat := (ss.map fun s => s.2).sum
structure OkSt (ss : List Sti) (count due : Nat) : Prop where
  tk : tks ss = count
  dr : drs ss = due
  ok : ∀ s ∈ ss, s.1 ≤ 3 ∧ 1 ≤ s.2 ∧ s.2 ≤ 3
structure OkRow (c : Nat) (r : Rw) : Prop where
  nm : Yn r.nm
  off : r.off < c
  sts : OkSt r.sts c (drs r.sts)
/-- rows that fit one above the other -/
def Rows : Nat → List Rw → Nat → Prop
  | c, [], c' => c = c'
  | c, r :: rs, c' => OkRow c r ∧ Rows (drs r.sts) rs c'
def cnts (c : Nat) (rs : List Rw) : List Nat := c :: rs.map fun r => drs r.sts
theorem tks_app (a b : List Sti) : tks (a ++ b) = tks a + tks b := by
  unfold tks
  rw [List.map_append, List.sum_append]
theorem drs_app (a b : List Sti) : drs (a ++ b) = drs a + drs b := by
  unfold drs
  rw [List.map_append, List.sum_append]
theorem len_drs : ∀ {ss : List Sti}, (∀ s ∈ ss, 1 ≤ s.2) → ss.length ≤ drs ss
  | [], _ => Nat.zero_le _
  | a :: r, h => by
    have h1 := h a List.mem_cons_self
    have h2 := len_drs (ss := r) fun s m => h s (List.mem_cons_of_mem _ m)
    unfold drs at h2 ⊢
    rw [List.length_cons, List.map_cons, List.sum_cons]
    omega
theorem OkSt.len {ss : List Sti} {c d : Nat} (h : OkSt ss c d) : ss.length ≤ d := by
  rw [← h.dr]
  exact len_drs fun s m => (h.ok s m).2.1
theorem noL_st (s : Sti) : noL (stD s) = true := rfl
theorem noLs_sts (ss : List Sti) : noLs (ss.map stD) = true := noLs_iff.mpr fun d hd => by
  obtain ⟨s, _, rfl⟩ := List.mem_map.mp hd
  rfl
theorem noL_rw (r : Rw) : noL (rwD r) = true := by
  show (true && (true && (noLs (r.sts.map stD) && true))) = true
  rw [noLs_sts]
  rfl
theorem noLs_rws (rs : List Rw) : noLs (rs.map rwD) = true := noLs_iff.mpr fun d hd => by
  obtain ⟨s, _, rfl⟩ := List.mem_map.mp hd
  exact noL_rw s
theorem rows_app {c d e : Nat} : ∀ {rs qs : List Rw}, Rows c rs d → Rows d qs e → Rows c (rs ++ qs) e
  | [], _, h, k => by
    cases (show c = d from h)
    exact k
  | r :: rs, _, h, k => ⟨h.1, rows_app h.2 k⟩
theorem cnts_len (c : Nat) (rs : List Rw) : (cnts c rs).length = rs.length + 1 := by
  unfold cnts
  rw [List.length_cons, List.length_map]
theorem cnts_end {c d : Nat} : ∀ {rs : List Rw}, Rows c rs d → (cnts c rs)[rs.length]? = some d
  | [], h => by
    cases (show c = d from h)
    rfl
  | r :: rs, h => by
    have := cnts_end h.2
    unfold cnts at this ⊢
    rw [List.length_cons, List.getElem?_cons_succ, List.map_cons]
    exact this
theorem rows_at {d : Nat} : ∀ {c : Nat} {rs : List Rw} {i : Nat} {r : Rw}, Rows c rs d → rs[i]? = some r → ∃ a, (cnts c rs)[i]? = some a ∧ (cnts c rs)[i + 1]? = some (drs r.sts) ∧ OkRow a r
  | c, q :: rs, 0, r, h, e => by
    cases e
    exact ⟨c, rfl, rfl, h.1⟩
  | c, q :: rs, i + 1, r, h, e => by
    obtain ⟨a, h1, h2, h3⟩ := rows_at (i := i) h.2 (by simpa using e)
    exact ⟨a, by unfold cnts at h1 ⊢; rw [List.getElem?_cons_succ, List.map_cons]; exact h1, by unfold cnts at h2 ⊢; rw [List.getElem?_cons_succ, List.map_cons]; exact h2, h3⟩
end MZ
/-! Where the ends of a stretch lie in the row below: the mathematics of spans. -/
namespace MZ
open PySem PySem.Spec PyProof.Rows L2 LK MY
/-- what a stitch that takes loops takes (lo to hi) and draws (nw to ls) -/
structure Spn where
  lo : Nat
  hi : Nat
  nw : Nat
  ls : Nat
def spn : Nat → Nat → List Sti → List Spn
  | _, _, [] => []
  | lo, nw, s :: r => (if 0 < s.1 then [⟨lo, lo + s.1 - 1, nw, nw + s.2 - 1⟩] else []) ++ spn (lo + s.1) (nw + s.2) r
theorem spn_app : ∀ (a b : List Sti) (lo nw : Nat), spn lo nw (a ++ b) = spn lo nw a ++ spn (lo + tks a) (nw + drs a) b
  | [], b, lo, nw => rfl
  | s :: a, b, lo, nw => by
    have := spn_app a b (lo + s.1) (nw + s.2)
    show _ ++ spn _ _ (a ++ b) = (_ ++ spn _ _ a) ++ _
    rw [this, List.append_assoc]
    have e1 : lo + s.1 + tks a = lo + tks (s :: a) := by
      unfold tks
      rw [List.map_cons, List.sum_cons]
      omega
    have e2 : nw + s.2 + drs a = nw + drs (s :: a) := by
      unfold drs
      rw [List.map_cons, List.sum_cons]
      omega
    rw [e1, e2]
/-- spans one behind the other, in a repeat -/
structure SpOk (L : List Spn) (off a b : Nat) : Prop where
  ord : L.Pairwise fun p q => p.hi < q.lo ∧ p.ls < q.nw
  ok : ∀ q ∈ L, off ≤ q.lo ∧ q.lo ≤ q.hi ∧ q.hi < off + a ∧ q.nw ≤ q.ls ∧ q.ls < b
  ne : L ≠ []
theorem spn_ok : ∀ (ss : List Sti) (lo nw : Nat), (∀ s ∈ ss, 1 ≤ s.2) → (spn lo nw ss).Pairwise (fun p q => p.hi < q.lo ∧ p.ls < q.nw) ∧ ∀ q ∈ spn lo nw ss, lo ≤ q.lo ∧ q.lo ≤ q.hi ∧ q.hi < lo + tks ss ∧ nw ≤ q.nw ∧ q.nw ≤ q.ls ∧ q.ls < nw + drs ss
  | [], lo, nw, _ => ⟨List.Pairwise.nil, fun q m => absurd m List.not_mem_nil⟩
  | s :: r, lo, nw, h => by
    obtain ⟨h1, h2⟩ := spn_ok r (lo + s.1) (nw + s.2) fun q m => h q (List.mem_cons_of_mem _ m)
    have hs := h s List.mem_cons_self
    have e1 : tks (s :: r) = s.1 + tks r := by
      unfold tks
      rw [List.map_cons, List.sum_cons]
    have e2 : drs (s :: r) = s.2 + drs r := by
      unfold drs
      rw [List.map_cons, List.sum_cons]
    unfold spn
    refine ⟨List.pairwise_append.mpr ⟨?_, h1, fun p mp q mq => ?_⟩, fun q m => ?_⟩
    · split
      · exact List.pairwise_singleton _ _
      · exact List.Pairwise.nil
    · have := h2 q mq
      split at mp
      · rw [List.mem_singleton.mp mp]
        dsimp only
        omega
      · exact absurd mp List.not_mem_nil
    · rw [e1, e2]
      rcases List.mem_append.mp m with m | m
      · split at m
        · rw [List.mem_singleton.mp m]
          dsimp only
          omega
        · exact absurd m List.not_mem_nil
      · have := h2 q m
        omega
theorem spn_ne : ∀ (ss : List Sti) (lo nw : Nat), 1 ≤ tks ss → spn lo nw ss ≠ []
  | [], _, _, h => absurd h (by decide)
  | s :: r, lo, nw, h => by
    have e1 : tks (s :: r) = s.1 + tks r := by
      unfold tks
      rw [List.map_cons, List.sum_cons]
    unfold spn
    by_cases c : 0 < s.1
    · rw [if_pos c]
      exact fun z => by cases z
    · have := spn_ne r (lo + s.1) (nw + s.2) (by omega)
      rw [if_neg c]
      exact this
/-- the spans of a right row -/
def spR (r : Rw) : List Spn := spn r.off 0 r.sts
theorem OkRow.sp {c : Nat} {r : Rw} (h : OkRow c r) : SpOk (spR r) r.off c (drs r.sts) := by
  have c1 : 1 ≤ c := by have := h.off; omega
  obtain ⟨h1, h2⟩ := spn_ok r.sts r.off 0 fun s m => (h.sts.ok s m).2.1
  refine ⟨h1, fun q m => ?_, spn_ne _ _ _ (by rw [h.sts.tk]; exact c1)⟩
  have := h2 q m
  rw [h.sts.tk] at this
  omega
/-- the least and the greatest of a list -/
def minL : List Int → Int
  | [] => 0
  | [a] => a
  | a :: b :: r => min a (minL (b :: r))
def maxL : List Int → Int
  | [] => 0
  | [a] => a
  | a :: b :: r => max a (maxL (b :: r))
theorem minL_ok : ∀ {l : List Int}, l ≠ [] → minL l ∈ l ∧ ∀ z ∈ l, minL l ≤ z
  | [], h => absurd rfl h
  | [a], _ => ⟨List.mem_singleton.mpr rfl, fun z m => by rw [List.mem_singleton.mp m]; exact Int.le_refl _⟩
  | a :: b :: r, _ => by
    obtain ⟨h1, h2⟩ := minL_ok (l := b :: r) (by simp)
    have e : minL (a :: b :: r) = min a (minL (b :: r)) := rfl
    rw [e]
    refine ⟨?_, fun z m => ?_⟩
    · rcases Int.le_total a (minL (b :: r)) with c | c
      · rw [Int.min_eq_left c]
        exact List.mem_cons_self
      · rw [Int.min_eq_right c]
        exact List.mem_cons_of_mem _ h1
    · rcases List.mem_cons.mp m with rfl | m
      · exact Int.min_le_left _ _
      · exact Int.le_trans (Int.min_le_right _ _) (h2 z m)
theorem maxL_ok : ∀ {l : List Int}, l ≠ [] → maxL l ∈ l ∧ ∀ z ∈ l, z ≤ maxL l
  | [], h => absurd rfl h
  | [a], _ => ⟨List.mem_singleton.mpr rfl, fun z m => by rw [List.mem_singleton.mp m]; exact Int.le_refl _⟩
  | a :: b :: r, _ => by
    obtain ⟨h1, h2⟩ := maxL_ok (l := b :: r) (by simp)
    have e : maxL (a :: b :: r) = max a (maxL (b :: r)) := rfl
    rw [e]
    refine ⟨?_, fun z m => ?_⟩
    · rcases Int.le_total a (maxL (b :: r)) with c | c
      · rw [Int.max_eq_right c]
        exact List.mem_cons_of_mem _ h1
      · rw [Int.max_eq_left c]
        exact List.mem_cons_self
    · rcases List.mem_cons.mp m with rfl | m
      · exact Int.le_max_left _ _
      · exact Int.le_trans (h2 z m) (Int.le_max_right _ _)
theorem minL_eq {l : List Int} {m : Int} (h1 : m ∈ l) (h2 : ∀ z ∈ l, m ≤ z) : m = minL l := by
  obtain ⟨a, b⟩ := minL_ok (List.ne_nil_of_mem h1)
  exact Int.le_antisymm (h2 _ a) (b _ h1)
theorem maxL_eq {l : List Int} {m : Int} (h1 : m ∈ l) (h2 : ∀ z ∈ l, z ≤ m) : m = maxL l := by
  obtain ⟨a, b⟩ := maxL_ok (List.ne_nil_of_mem h1)
  exact Int.le_antisymm (b _ h1) (h2 _ a)
def lVal (a b : Nat) (x : Int) (q : Spn) : Int := (q.lo : Int) - ((q.nw : Int) - x) / (b : Int) * (a : Int)
def rVal (a b : Nat) (x : Int) (q : Spn) : Int := (q.hi : Int) + (x - (q.ls : Int)) / (b : Int) * (a : Int)
/-- the left and the right end in the row below -/
def lE (L : List Spn) (a b : Nat) (x : Int) : Int := minL (L.map (lVal a b x))
def rE (L : List Spn) (a b : Nat) (x : Int) : Int := maxL (L.map (rVal a b x))
theorem div_iff {z k b : Int} (h : 0 < b) : z / b = k ↔ k * b ≤ z ∧ z < (k + 1) * b := by
  constructor
  · rintro rfl
    have e := Int.mul_ediv_add_emod z b
    have r0 := Int.emod_nonneg z (Int.ne_of_gt h)
    have r1 := Int.emod_lt_of_pos z h
    rw [Int.add_mul, Int.one_mul, Int.mul_comm (z / b) b]
    omega
  · rintro ⟨h1, h2⟩
    have e1 : k ≤ z / b := (Int.le_ediv_iff_mul_le h).mpr h1
    have e2 : z / b < k + 1 := (Int.ediv_lt_iff_lt_mul h).mpr h2
    omega
theorem mul_mono {k l a : Int} (ha : 0 ≤ a) (h : k ≤ l) : k * a ≤ l * a := Int.mul_le_mul_of_nonneg_right h ha
section
variable {L : List Spn} {off a b : Nat} (S : SpOk L off a b)
include S
theorem SpOk.a1 : 1 ≤ a := by
  obtain ⟨q, m⟩ := List.exists_mem_of_ne_nil _ S.ne
  have := S.ok q m
  omega
theorem SpOk.b1 : 1 ≤ b := by
  obtain ⟨q, m⟩ := List.exists_mem_of_ne_nil _ S.ne
  have := S.ok q m
  omega
/-- two spans of one repeat -/
theorem SpOk.two {p q : Spn} (hp : p ∈ L) (hq : q ∈ L) : p = q ∨ (p.hi < q.lo ∧ p.ls < q.nw) ∨ (q.hi < p.lo ∧ q.ls < p.nw) := by
  obtain ⟨i, hi⟩ := List.getElem?_of_mem hp
  obtain ⟨j, hj⟩ := List.getElem?_of_mem hq
  obtain ⟨il, ei⟩ := List.getElem?_eq_some_iff.mp hi
  obtain ⟨jl, ej⟩ := List.getElem?_eq_some_iff.mp hj
  rcases Nat.lt_trichotomy i j with c | c | c
  · have := List.pairwise_iff_getElem.mp S.ord i j il jl c
    rw [ei, ej] at this
    exact .inr (.inl this)
  · subst c
    exact .inl (ei.symm.trans ej)
  · have := List.pairwise_iff_getElem.mp S.ord j i jl il c
    rw [ei, ej] at this
    exact .inr (.inr this)
/-- the order of the spans along the ring -/
theorem SpOk.order {p q : Spn} {k l : Int} (hp : p ∈ L) (hq : q ∈ L) (h : (p.lo : Int) + k * a ≤ q.hi + l * a) : (p.lo : Int) + k * a ≤ q.lo + l * a ∧ (p.hi : Int) + k * a ≤ q.hi + l * a ∧ (p.nw : Int) + k * b ≤ q.nw + l * b ∧ (p.ls : Int) + k * b ≤ q.ls + l * b := by
  have p1 := S.ok p hp
  have q1 := S.ok q hq
  rcases Int.lt_trichotomy k l with c | c | c
  · have e1 : k * (a : Int) + a ≤ l * a := by
      have := mul_mono (a := (a : Int)) (by omega) (show k + 1 ≤ l by omega)
      rw [Int.add_mul, Int.one_mul] at this
      exact this
    have e2 : k * (b : Int) + b ≤ l * b := by
      have := mul_mono (a := (b : Int)) (by omega) (show k + 1 ≤ l by omega)
      rw [Int.add_mul, Int.one_mul] at this
      exact this
    omega
  · subst c
    rcases S.two hp hq with rfl | c | c <;> omega
  · have e1 : l * (a : Int) + a ≤ k * a := by
      have := mul_mono (a := (a : Int)) (by omega) (show l + 1 ≤ k by omega)
      rw [Int.add_mul, Int.one_mul] at this
      exact this
    omega
theorem SpOk.lval {q : Spn} (x : Int) : ∃ k : Int, lVal a b x q = q.lo + k * a ∧ x ≤ q.nw + k * b ∧ ∀ l : Int, x ≤ q.nw + l * b → k ≤ l := by
  have b0 : (0 : Int) < b := by have := S.b1; omega
  obtain ⟨h1, h2⟩ := (div_iff b0).mp (rfl : ((q.nw : Int) - x) / (b : Int) = _)
  refine ⟨-(((q.nw : Int) - x) / (b : Int)), ?_, ?_, fun l hl => ?_⟩
  · unfold lVal
    rw [Int.neg_mul]
    omega
  · rw [Int.neg_mul]
    omega
  · have h3 : -l * (b : Int) ≤ q.nw - x + 0 := by rw [Int.neg_mul]; omega
    have : -l - 1 < ((q.nw : Int) - x) / (b : Int) := by
      refine Classical.byContradiction fun z => ?_
      have := mul_mono (a := (b : Int)) (by omega) (show ((q.nw : Int) - x) / (b : Int) + 1 ≤ -l by omega)
      omega
    omega
theorem SpOk.rval {q : Spn} (x : Int) : ∃ k : Int, rVal a b x q = q.hi + k * a ∧ (q.ls : Int) + k * b ≤ x ∧ ∀ l : Int, (q.ls : Int) + l * b ≤ x → l ≤ k := by
  have b0 : (0 : Int) < b := by have := S.b1; omega
  obtain ⟨h1, h2⟩ := (div_iff b0).mp (rfl : (x - (q.ls : Int)) / (b : Int) = _)
  refine ⟨(x - (q.ls : Int)) / (b : Int), rfl, by omega, fun l hl => ?_⟩
  refine Classical.byContradiction fun z => ?_
  have := mul_mono (a := (b : Int)) (by omega) (show (x - (q.ls : Int)) / (b : Int) + 1 ≤ l by omega)
  omega
theorem SpOk.lmem (x : Int) : ∃ q ∈ L, ∃ k : Int, lE L a b x = q.lo + k * a ∧ x ≤ q.nw + k * b := by
  obtain ⟨h, _⟩ := minL_ok (l := L.map (lVal a b x)) (by simp [S.ne])
  obtain ⟨q, m, e⟩ := List.mem_map.mp h
  obtain ⟨k, h1, h2, _⟩ := S.lval (q := q) x
  exact ⟨q, m, k, e.symm.trans h1, h2⟩
theorem SpOk.lle {q : Spn} {k x : Int} (m : q ∈ L) (h : x ≤ q.nw + k * b) : lE L a b x ≤ q.lo + k * a := by
  obtain ⟨_, h2⟩ := minL_ok (l := L.map (lVal a b x)) (by simp [S.ne])
  have := h2 _ (List.mem_map_of_mem m)
  obtain ⟨l, e, _, h3⟩ := S.lval (q := q) x
  have := mul_mono (a := (a : Int)) (by omega) (h3 k h)
  show minL _ ≤ _
  omega
theorem SpOk.rmem (x : Int) : ∃ q ∈ L, ∃ k : Int, rE L a b x = q.hi + k * a ∧ (q.ls : Int) + k * b ≤ x := by
  obtain ⟨h, _⟩ := maxL_ok (l := L.map (rVal a b x)) (by simp [S.ne])
  obtain ⟨q, m, e⟩ := List.mem_map.mp h
  obtain ⟨k, h1, h2, _⟩ := S.rval (q := q) x
  exact ⟨q, m, k, e.symm.trans h1, h2⟩
theorem SpOk.rle {q : Spn} {k x : Int} (m : q ∈ L) (h : (q.ls : Int) + k * b ≤ x) : (q.hi : Int) + k * a ≤ rE L a b x := by
  obtain ⟨_, h2⟩ := maxL_ok (l := L.map (rVal a b x)) (by simp [S.ne])
  have := h2 _ (List.mem_map_of_mem m)
  obtain ⟨l, e, _, h3⟩ := S.rval (q := q) x
  have := mul_mono (a := (a : Int)) (by omega) (h3 k h)
  show _ ≤ maxL _
  omega
/-- a repeat more is a repeat more -/
theorem SpOk.lper (x k : Int) : lE L a b (x + k * b) = lE L a b x + k * a := by
  obtain ⟨q, m, l, e, h⟩ := S.lmem x
  obtain ⟨q', m', l', e', h'⟩ := S.lmem (x + k * b)
  have h1 := S.lle (k := l + k) (x := x + k * b) m (by rw [Int.add_mul]; omega)
  have h2 := S.lle (k := l' - k) (x := x) m' (by rw [Int.sub_mul]; omega)
  rw [Int.add_mul] at h1
  rw [Int.sub_mul] at h2
  omega
theorem SpOk.rper (x k : Int) : rE L a b (x + k * b) = rE L a b x + k * a := by
  obtain ⟨q, m, l, e, h⟩ := S.rmem x
  obtain ⟨q', m', l', e', h'⟩ := S.rmem (x + k * b)
  have h1 := S.rle (k := l + k) (x := x + k * b) m (by rw [Int.add_mul]; omega)
  have h2 := S.rle (k := l' - k) (x := x) m' (by rw [Int.sub_mul]; omega)
  rw [Int.add_mul] at h1
  rw [Int.sub_mul] at h2
  omega
theorem SpOk.gap (x : Int) : rE L a b x < lE L a b (x + 1) := by
  obtain ⟨q, m, k, e, h⟩ := S.rmem x
  obtain ⟨p, mp, l, ep, hp⟩ := S.lmem (x + 1)
  refine Classical.byContradiction fun z => ?_
  have o := S.order (k := l) (l := k) mp m (by omega)
  have := (S.ok q m).2.2.2
  omega
theorem SpOk.lmono {x y : Int} (h : x ≤ y) : lE L a b x ≤ lE L a b y := by
  obtain ⟨q, m, k, e, h1⟩ := S.lmem y
  rw [e]
  exact S.lle m (by omega)
theorem SpOk.rmono {x y : Int} (h : x ≤ y) : rE L a b x ≤ rE L a b y := by
  obtain ⟨q, m, k, e, h1⟩ := S.rmem x
  rw [e]
  exact S.rle m (by omega)
/-- something runs iff a stitch lies within -/
theorem SpOk.some_iff {x y : Int} : lE L a b x ≤ rE L a b y ↔ ∃ q ∈ L, ∃ k : Int, x ≤ q.nw + k * b ∧ (q.ls : Int) + k * b ≤ y := by
  constructor
  · intro h
    obtain ⟨p, mp, l, ep, hp⟩ := S.lmem x
    obtain ⟨q, m, k, e, hq⟩ := S.rmem y
    have o := S.order (k := l) (l := k) mp m (by omega)
    exact ⟨p, mp, l, hp, by omega⟩
  · rintro ⟨q, m, k, h1, h2⟩
    have := S.lle m h1
    have := S.rle m h2
    have := (S.ok q m).2.1
    omega
/-- the leftmost stitch within begins at the left end -/
theorem SpOk.lhit {x y : Int} (h : ∃ q ∈ L, ∃ k : Int, x ≤ q.nw + k * b ∧ (q.ls : Int) + k * b ≤ y) : ∃ q ∈ L, ∃ k : Int, x ≤ q.nw + k * b ∧ (q.ls : Int) + k * b ≤ y ∧ lE L a b x = q.lo + k * a := by
  obtain ⟨p, mp, l, ep, hp⟩ := S.lmem x
  obtain ⟨q, m, k, h1, h2⟩ := h
  have := S.lle m h1
  have := (S.ok q m).2.1
  have o := S.order (k := l) (l := k) mp m (by omega)
  exact ⟨p, mp, l, hp, by omega, ep⟩
theorem SpOk.rhit {x y : Int} (h : ∃ q ∈ L, ∃ k : Int, x ≤ q.nw + k * b ∧ (q.ls : Int) + k * b ≤ y) : ∃ q ∈ L, ∃ k : Int, x ≤ q.nw + k * b ∧ (q.ls : Int) + k * b ≤ y ∧ rE L a b y = q.hi + k * a := by
  obtain ⟨p, mp, l, ep, hp⟩ := S.rmem y
  obtain ⟨q, m, k, h1, h2⟩ := h
  have := S.rle m h2
  have := (S.ok q m).2.1
  have o := S.order (k := k) (l := l) m mp (by omega)
  exact ⟨p, mp, l, by omega, hp, ep⟩
end
end MZ
/-! A def held by a local name; ends row by row. -/
namespace MZ
open PySem PySem.Spec PyProof.Rows L2 LK MY
/-- a def that a local name holds is called -/
def tCallV (i : Nat) (f : Addr) (sp : Sp) (dvs : List V) (E : XK) (t : TA) : TE := fun σ H Q => σ[i]? = some (some (.ref f)) ∧ tCall sp dvs E t σ H Q
section
variable {X : Cx} {CX : CXT} {k i : Nat} {f : Addr} {fd : FuncData} {ps : List Str} {sp : Sp} {dvs : List V} {ds : List Value} {E : XK} {x : Str} {p pos : Pos} {e : Expr} {es : List Expr} {t : TA}
theorem pe_callV (F : FnOk X.prog X.w X.K X.mg X.base CX k f fd ps sp) (hr : Room k X.A) (hn : PE X (.Name x p) (tVar i)) (hk : PySem.W.keepIn X.K (.ref f) = true) (hb : Binds X.K fd ps ds) (hd : Vals dvs ds) (hx : Passes CX X E)
    (ha : PA X (e :: es) t) (he : starEach (e :: es) X.env = (false, eval e X.env) :: starEach es X.env := by rfl) (hpl : (backTo pos (starEach es X.env)).any (·.1) = false := by rfl) :
    PE X (.Call (.Name x p) (e :: es) [] pos) (tCallV i f sp dvs E t) := by
  refine ⟨fun pins s σ H Q I h => ?_⟩
  obtain ⟨hi, h⟩ := h
  refine wpAny_Call_Name_kw (thn (hn.run pins s σ H (fun v H' => v = .ref f ∧ H' = H) I ⟨_, hi, rfl, rfl⟩) fun u s1 ⟨v, H1, I1, r1, e1, e2⟩ => ?_)
  subst e1 e2
  obtain rfl : u = Value.ref f := r1
  refine PySem.W.callWith_K (h₀ := X.base) I1.ok.mod.kin hk (thn (ha.run pos pins s1 σ _ _ I1 h) fun us s2 ⟨vs, H2, I2, r, q⟩ => ⟨I2.kIn, ?_⟩) he hpl
  exact run_fn F hr hb hd hx I2 r q
end
/-! ### rows of a chart by their numbers -/
def rwAt (rs : List Rw) (i : Nat) : Rw := (rs[i]?).getD ⟨"", 0, []⟩
def cn (size : Nat) (rs : List Rw) (i : Nat) : Nat := ((cnts size rs)[i]?).getD 1
structure OkCh (size : Nat) (rs : List Rw) : Prop where
  rows : Rows size rs size
  cc : ∀ z ∈ cnts size rs, 1 ≤ z ∧ z ≤ 1000
  rl : 1 ≤ rs.length ∧ rs.length ≤ 1000
theorem OkCh.row {size : Nat} {rs : List Rw} (h : OkCh size rs) {i : Nat} (il : i < rs.length) : rs[i]? = some (rwAt rs i) ∧ OkRow (cn size rs i) (rwAt rs i) ∧ drs (rwAt rs i).sts = cn size rs (i + 1) ∧ (cnts size rs)[i]? = some (cn size rs i) ∧ (cnts size rs)[i + 1]? = some (cn size rs (i + 1)) := by
  have e : rs[i]? = some (rwAt rs i) := by
    unfold rwAt
    rw [List.getElem?_eq_getElem il]
    rfl
  obtain ⟨a, h1, h2, h3⟩ := rows_at h.rows e
  have c1 : cn size rs i = a := by unfold cn; rw [h1]; rfl
  have c2 : cn size rs (i + 1) = drs (rwAt rs i).sts := by unfold cn; rw [h2]; rfl
  rw [c1, c2]
  exact ⟨e, h3, rfl, h1, h2⟩
theorem OkCh.cn1 {size : Nat} {rs : List Rw} (h : OkCh size rs) (i : Nat) : 1 ≤ cn size rs i ∧ cn size rs i ≤ 1000 := by
  unfold cn
  cases e : (cnts size rs)[i]? with
  | none => exact ⟨Nat.le_refl _, by decide⟩
  | some a => exact h.cc a (List.mem_of_getElem? e)
theorem OkCh.wrap {size : Nat} {rs : List Rw} (h : OkCh size rs) : cn size rs rs.length = size ∧ cn size rs 0 = size := by
  constructor
  · unfold cn
    rw [cnts_end h.rows]
    rfl
  · rfl
theorem OkCh.sp {size : Nat} {rs : List Rw} (h : OkCh size rs) {i : Nat} (il : i < rs.length) : SpOk (spR (rwAt rs i)) (rwAt rs i).off (cn size rs i) (cn size rs (i + 1)) := by
  obtain ⟨_, h1, h2, _⟩ := h.row il
  rw [← h2]
  exact h1.sp
theorem OkCh.few {size : Nat} {rs : List Rw} (h : OkCh size rs) : ∀ r ∈ rs, r.sts.length ≤ 1000 := fun r m => by
  obtain ⟨i, hi⟩ := List.getElem?_of_mem m
  obtain ⟨a, c1, c2, ok⟩ := rows_at h.rows hi
  have := ok.sts.len
  have := (h.cc _ (List.mem_of_getElem? c2)).2
  omega
/-- the ends in the row below -/
def lEnd (size : Nat) (rs : List Rw) (i : Nat) (x : Int) : Int := lE (spR (rwAt rs i)) (cn size rs i) (cn size rs (i + 1)) x
def rEnd (size : Nat) (rs : List Rw) (i : Nat) (x : Int) : Int := rE (spR (rwAt rs i)) (cn size rs i) (cn size rs (i + 1)) x
/-- the next row, up or down -/
def nxR (n : Nat) (up : Bool) (i : Nat) : Nat := if up then (i + 1) % n else (i + n - 1) % n
/-- row by row -/
def walkD (n : Nat) (st : Nat → Int → Int) (up : Bool) : Nat → Nat → Int → Int
  | 0, _, x => x
  | k + 1, i, x => walkD n st up k (nxR n up i) (st i x)
def rowD (n : Nat) (up : Bool) : Nat → Nat → Nat
  | 0, i => i
  | k + 1, i => rowD n up k (nxR n up i)
theorem nxR_lt {n : Nat} (h : 0 < n) (up : Bool) (i : Nat) : nxR n up i < n := by
  unfold nxR
  split <;> exact Nat.mod_lt _ h
theorem rowD_lt {n : Nat} (up : Bool) : ∀ (k i : Nat), i < n → rowD n up k i < n
  | 0, i, h => h
  | k + 1, i, h => rowD_lt up k _ (nxR_lt (by omega) up i)
theorem rowD_up {n : Nat} : ∀ (k i : Nat), i < n → rowD n true k i = (i + k) % n
  | 0, i, h => (Nat.mod_eq_of_lt h).symm
  | k + 1, i, h => by
    have := rowD_up k (nxR n true i) (nxR_lt (by omega) _ _)
    show rowD n true k (nxR n true i) = _
    rw [this]
    unfold nxR
    rw [if_pos rfl, Nat.mod_add_mod]
    congr 1
    omega
theorem rowD_down {n : Nat} : ∀ (k i : Nat), i < n → k ≤ n → rowD n false k i = (i + n - k) % n
  | 0, i, h, _ => by
    show i = _
    rw [Nat.sub_zero, Nat.add_mod_right, Nat.mod_eq_of_lt h]
  | k + 1, i, h, hk => by
    have := rowD_down k (nxR n false i) (nxR_lt (by omega) _ _) (by omega)
    show rowD n false k (nxR n false i) = _
    rw [this]
    unfold nxR
    rw [if_neg (by decide)]
    by_cases z : i = 0
    · subst z
      rw [show 0 + n - 1 = n - 1 by omega, Nat.mod_eq_of_lt (show n - 1 < n by omega), show n - 1 + n - k = (0 + n - (k + 1)) + n by omega, Nat.add_mod_right]
    · rw [show i + n - 1 = (i - 1) + n by omega, Nat.add_mod_right, Nat.mod_eq_of_lt (show i - 1 < n by omega)]
      congr 1
      omega
theorem rowD_round {n : Nat} (up : Bool) {i : Nat} (h : i < n) : rowD n up n i = i := by
  cases up with
  | true => rw [rowD_up n i h, Nat.add_mod_right, Nat.mod_eq_of_lt h]
  | false => rw [rowD_down n i h (Nat.le_refl _), Nat.add_sub_cancel, Nat.mod_eq_of_lt h]
theorem walkD_add {n : Nat} {st : Nat → Int → Int} {up : Bool} : ∀ (k l i : Nat) (x : Int), walkD n st up (k + l) i x = walkD n st up l (rowD n up k i) (walkD n st up k i x)
  | 0, l, i, x => by rw [Nat.zero_add]; rfl
  | k + 1, l, i, x => by
    rw [show k + 1 + l = (k + l) + 1 by omega]
    exact walkD_add k l _ _
/-- a repeat more is a repeat more -/
def Per (n : Nat) (st : Nat → Int → Int) (up : Bool) (c : Nat → Nat) : Prop := ∀ i, i < n → ∀ (x k : Int), st i (x + k * c i) = st i x + k * c (nxR n up i)
theorem walkD_per {n : Nat} {st : Nat → Int → Int} {up : Bool} {c : Nat → Nat} (h : Per n st up c) : ∀ (k i : Nat) (x m : Int), i < n → walkD n st up k i (x + m * c i) = walkD n st up k i x + m * c (rowD n up k i)
  | 0, i, x, m, _ => rfl
  | k + 1, i, x, m, il => by
    show walkD n st up k (nxR n up i) (st i (x + m * c i)) = walkD n st up k (nxR n up i) (st i x) + m * c (rowD n up k (nxR n up i))
    rw [h i il x m]
    exact walkD_per h k _ _ m (nxR_lt (by omega) up i)
def itr (T : Int → Int) : Nat → Int → Int
  | 0, x => x
  | k + 1, x => itr T k (T x)
theorem itr_add (T : Int → Int) : ∀ (k l : Nat) (x : Int), itr T (k + l) x = itr T l (itr T k x)
  | 0, l, x => by rw [Nat.zero_add]; rfl
  | k + 1, l, x => by
    rw [show k + 1 + l = (k + l) + 1 by omega]
    exact itr_add T k l _
theorem itr_two (T : Int → Int) : ∀ (k : Nat) (x : Int), itr (fun y => T (T y)) k x = itr T (2 * k) x
  | 0, x => rfl
  | k + 1, x => by
    rw [show 2 * (k + 1) = 2 * k + 1 + 1 by omega]
    exact itr_two T k _
def Per1 (c : Nat) (T : Int → Int) : Prop := ∀ x k : Int, T (x + k * c) = T x + k * c
theorem Per1.two {c : Nat} {T : Int → Int} (h : Per1 c T) : Per1 c fun y => T (T y) := fun x k => by
  show T (T (x + k * c)) = _
  rw [h x k, h]
theorem walkD_round {n : Nat} {st : Nat → Int → Int} {up : Bool} {i : Nat} (il : i < n) : ∀ (t : Nat) (x : Int), walkD n st up (n * t) i x = itr (fun y => walkD n st up n i y) t x ∧ rowD n up (n * t) i = i
  | 0, x => by
    rw [Nat.mul_zero]
    exact ⟨rfl, rfl⟩
  | t + 1, x => by
    have r2 : ∀ (a b : Nat), rowD n up (a + b) i = rowD n up b (rowD n up a i) := fun a b => by
      have gen : ∀ (a b i : Nat), rowD n up (a + b) i = rowD n up b (rowD n up a i) := fun a => by
        induction a with
        | zero => intro b i; rw [Nat.zero_add]; rfl
        | succ a ih => intro b i; rw [show a + 1 + b = (a + b) + 1 by omega]; exact ih b _
      exact gen a b i
    rw [Nat.mul_succ, Nat.add_comm (n * t) n]
    constructor
    · rw [walkD_add, rowD_round up il, (walkD_round (st := st) il t _).1]
      rfl
    · rw [r2, rowD_round up il, (walkD_round (st := st) il t x).2]
theorem round_per {n : Nat} {st : Nat → Int → Int} {up : Bool} {c : Nat → Nat} (h : Per n st up c) {i : Nat} (il : i < n) : Per1 (c i) fun y => walkD n st up n i y := fun x k => by
  have := walkD_per h n i x k il
  rw [rowD_round up il] at this
  exact this
/-- any number of rows: whole rounds, and the rest -/
theorem walkD_far {n : Nat} {st : Nat → Int → Int} {up : Bool} {i : Nat} (il : i < n) (t r : Nat) (x : Int) : walkD n st up (n * t + r) i x = walkD n st up r i (itr (fun y => walkD n st up n i y) t x) := by
  rw [walkD_add, (walkD_round (st := st) il t x).1, (walkD_round (st := st) il t x).2]
theorem lEnd_per {size : Nat} {rs : List Rw} (h : OkCh size rs) : Per rs.length (lEnd size rs) false (fun i => cn size rs (i + 1)) := fun i il x k => by
  unfold lEnd
  rw [(h.sp il).lper x k]
  congr 3
  unfold nxR
  rw [if_neg (by decide)]
  by_cases z : i = 0
  · subst z
    rw [show 0 + rs.length - 1 = rs.length - 1 by omega, Nat.mod_eq_of_lt (show rs.length - 1 < rs.length by omega)]
    show cn size rs 0 = cn size rs (rs.length - 1 + 1)
    rw [show rs.length - 1 + 1 = rs.length by omega, h.wrap.1, h.wrap.2]
  · rw [show i + rs.length - 1 = (i - 1) + rs.length by omega, Nat.add_mod_right, Nat.mod_eq_of_lt (show i - 1 < rs.length by omega)]
    show cn size rs i = cn size rs (i - 1 + 1)
    rw [show i - 1 + 1 = i by omega]
theorem rEnd_per {size : Nat} {rs : List Rw} (h : OkCh size rs) : Per rs.length (rEnd size rs) false (fun i => cn size rs (i + 1)) := fun i il x k => by
  unfold rEnd
  rw [(h.sp il).rper x k]
  congr 3
  unfold nxR
  rw [if_neg (by decide)]
  by_cases z : i = 0
  · subst z
    rw [show 0 + rs.length - 1 = rs.length - 1 by omega, Nat.mod_eq_of_lt (show rs.length - 1 < rs.length by omega)]
    show cn size rs 0 = cn size rs (rs.length - 1 + 1)
    rw [show rs.length - 1 + 1 = rs.length by omega, h.wrap.1, h.wrap.2]
  · rw [show i + rs.length - 1 = (i - 1) + rs.length by omega, Nat.add_mod_right, Nat.mod_eq_of_lt (show i - 1 < rs.length by omega)]
    show cn size rs i = cn size rs (i - 1 + 1)
    rw [show i - 1 + 1 = i by omega]
end MZ
/-! max of a list of tuples of two ints. -/
namespace MZ
open PySem PySem.Spec PyProof.Rows L2 LK MY
/-- p > q, place by place -/
def gtP (p q : Int × Int) : Bool := decide (q.1 < p.1 ∨ (q.1 = p.1 ∧ q.2 < p.2))
/-- what a tuple of two ints looks like -/
def pairO (p : Int × Int) (t1 t2 : Tok) (n : Nat) (dd : Option Addr) (sl : Array (Option Value)) : Obj := { cls := .type "tuple", dict := dd, data := .seq #[.int p.1 t1, .int p.2 t2] n, slots := sl }
section
open PySem.SeqAt
open PySem.AutoSeq1 (wpAny_loadPart')
open PySem.MeetsSeq PySem.MeetsSeq2 PySem.MeetsSeq3
theorem gt_int1 (A : Around) (s : Shared) (a : Int) (t : Tok) (c : Int) (u : Tok) (prog : Program) (w : World) (E : Value → Shared → Prop) (Q : Value → Shared → Prop) (h : Q (.bool (decide (c < a))) s) :
    wpAny (model prog w) A (richCompare .Gt (.int a t) (.int c u)) Q E s :=
  (PyProof.Rows.gt_int h : wpAny (model prog w) A (compareOp .Gt (.int a t) (.int c u)) Q E s)
theorem pair_gt (x y : Addr) (p q : Int × Int) (t1 t2 u1 u2 : Tok) (m m2 : Nat) (dx dy : Option Addr) (sx sy : Array (Option Value)) :
    Meets (Builtin.«tuple.__gt__» ⟨[.ref x, .ref y], []⟩) (fun _ R s => s.heap.get? x = some (pairO p t1 t2 m dx sx) ∧ s.heap.get? y = some (pairO q u1 u2 m2 dy sy) ∧ R (.ok (.ret (.bool (gtP p q)))) s) :=
  .of_wp fun prog w A R s h => by
    obtain ⟨hp, g, d, tk, os⟩ := s
    obtain ⟨hx, hy, h⟩ := h
    obtain ⟨p1, p2⟩ := p
    obtain ⟨q1, q2⟩ := q
    unfold pairO at hx hy
    have f2 := AutoSeq1.sub_tuple_tuple
    wp_walk using wpAny_loadPart' hx, wpAny_loadPart' hy, wpAny_forIn_list _ (fun rest b s' => b.1 = none ∧ s' = ⟨hp, g, d, tk, os⟩ ∧ ((rest = [(Value.int p1 t1, Value.int q1 u1), (Value.int p2 t2, Value.int q2 u2)]) ∨ (rest = [(Value.int p2 t2, Value.int q2 u2)] ∧ p1 = q1) ∨ (rest = [] ∧ p1 = q1 ∧ p2 = q2))) _
    · rintro ⟨e1, e2⟩ rest b s' ⟨hb', rfl, hz⟩
      have key : ∃ (a c : Int) (t u : Tok), e1 = Value.int a t ∧ e2 = Value.int c u ∧ (a ≠ c → gtP (p1, p2) (q1, q2) = decide (c < a)) ∧ (a = c → (rest = [(Value.int p1 t1, Value.int q1 u1), (Value.int p2 t2, Value.int q2 u2)]) ∨ (rest = [(Value.int p2 t2, Value.int q2 u2)] ∧ p1 = q1) ∨ (rest = [] ∧ p1 = q1 ∧ p2 = q2)) := by
        rcases hz with z | ⟨z, e⟩ | ⟨z, _⟩
        · cases z
          refine ⟨_, _, _, _, rfl, rfl, fun n => decide_eq_decide.mpr ?_, fun e => .inr (.inl ⟨rfl, e⟩)⟩
          dsimp only
          omega
        · cases z
          refine ⟨_, _, _, _, rfl, rfl, fun n => decide_eq_decide.mpr ?_, fun e2 => .inr (.inr ⟨rfl, e, e2⟩)⟩
          dsimp only
          omega
        · cases z
      obtain ⟨a, c, t, u, rfl, rfl, k1, k2⟩ := key
      obtain ⟨e, he, hiff⟩ := HT.eqAt_int A.in1 ⟨hp, g, d, tk, os⟩ a t c u
      have hri := gt_int1 A.in1 ⟨hp, g, d, tk, os⟩ a t c u prog w
      refine wpAny_bind (he prog w _ _ ?_)
      cases e with
      | true =>
        have := k2 (hiff.mp rfl)
        wp_walk
        exact ⟨rfl, rfl, this⟩
      | false =>
        rw [k1 fun q => absurd (hiff.mpr q) Bool.false_ne_true] at h
        wp_walk using hri
        exact ⟨_, rfl, by simpa using h⟩
    · rintro ⟨b1, b2⟩ s' ⟨hb', rfl, hz⟩
      have e : gtP (p1, p2) (q1, q2) = false := by
        rcases hz with z | ⟨z, _⟩ | ⟨_, rfl, rfl⟩
        · cases z
        · cases z
        · exact decide_eq_false (by simp)
      simp only at hb'
      subst hb'
      rw [e] at h
      wp_walk
      exact ⟨_, rfl, by simpa [Builtin.Tuple.tupleCompareSizes] using h⟩
    · exact ⟨rfl, rfl, .inl rfl⟩
end
section
variable {prog : Program} {w : World} {A : Around} {R : Result → Shared → Prop} {I : Addr} {fp wr : List Addr} {n n0 : Nat} {P : Nat → Value → Prop} {St : Nat → Heap → Prop} {h0 : Heap}
/-- what stood below n0 stands -/
def Below (h0 : Heap) (n0 : Nat) (h : Heap) : Prop := ∀ b o, b < n0 → h0.get? b = some o → h.get? b = some o
/-- the turns of max, whatever is compared: the answer may look at what stood below n0 -/
theorem mx_turns (W : Walks prog w A.in1 I fp wr n P St) (bt : Nat → Nat → Bool)
    (hcmp : ∀ i j vi vj (s : Shared) (Q E : Value → Shared → Prop), Below h0 n0 s.heap → P i vi → P j vj → Q (.bool (bt i j)) s → wpAny (model prog w) A.in1 (richCompare .Gt vi vj) Q E s)
    (S : Addr) (hSf : S ∉ fp) (hw : ∀ b ∈ wr, n0 ≤ b) (hS0 : n0 ≤ S) (hn : 0 < n) :
    ∀ (k j : Nat) (s : Shared) (ys : Array Value) (c : Nat), n - j = k → j ≤ n → St j s.heap → Below h0 n0 s.heap → ((j = 0 ∧ ys = #[]) ∨ (0 < j ∧ ∃ vb, P (argBest bt (j - 1)) vb ∧ ys = #[vb, vb])) →
    s.heap.get? S = some { cls := .type "list", dict := none, data := .seq ys c, slots := #[] } →
    (∀ v h' tk, P (argBest bt (n - 1)) v → Below h0 n0 h' → R (.ok (.ret v)) { s with heap := h', toks := tk }) →
    codeAny (model prog w) A (.builtin "max.loop" ⟨[.ref I, .none, .ref S], []⟩) R s := by
  have nw : S ∉ wr := fun z => hSf (W.sub _ z)
  have nm : (toString "max" ++ toString ".loop" : String) = "max.loop" := by decide
  have kp : ∀ {h h' : Heap}, Below h0 n0 h → (∀ b o, b ∉ wr → h.get? b = some o → h'.get? b = some o) → Below h0 n0 h' := fun b1 kk b o hb e => kk b o (fun z => absurd (hw b z) (by omega)) (b1 b o hb e)
  have kq : ∀ {h : Heap} {f : Obj → Obj}, Below h0 n0 h → Below h0 n0 (h.update S f) := fun b1 b o hb e => (Heap.get?_update_other _ _ (show S ≠ b from fun z => Nat.lt_irrefl _ (Nat.lt_of_lt_of_le hb (z ▸ hS0)))).trans (b1 b o hb e)
  intro k
  induction k with
  | zero =>
    intro j s ys c hk hj hst hb hys hS hR
    obtain rfl : j = n := by omega
    rcases hys with ⟨rfl, _⟩ | ⟨_, vb, hPb, rfl⟩
    · exact absurd hn (by decide)
    refine (codeAny_builtin PySem.F.entry_max_loop (?_)); rw [Around.under_plainId PySem.F.plain_max_loop _]
    show wpAny _ A.in1 (seqItems? (.ref S) >>= _) _ _ s
    refine wpAny_bind <| wpAny_seqItems hS rfl ?_
    show wpAny _ A.in1 (tryCatch (pyNext (.ref I)) _ >>= _) _ _ s
    refine wpAny_bind <| wpAny_tryCatch <| W.done s _ _ hst fun h1 k1 kk => ?_
    show wpAny _ A.in1 (updateSeq S (fun _ => #[]) >>= _) _ _ _
    refine wpAny_bind <| wpAny_updateSeq (kk S _ nw hS) rfl <| wpAny_bind <| wpAny_letGo <| wpAny_pure ?_
    exact hR vb _ k1 hPb (kq (kp hb kk))
  | succ k ih =>
    intro j s ys c hk hj hst hb hys hS hR
    have lt : j < n := by omega
    refine (codeAny_builtin PySem.F.entry_max_loop (?_)); rw [Around.under_plainId PySem.F.plain_max_loop _]
    show wpAny _ A.in1 (seqItems? (.ref S) >>= _) _ _ s
    refine wpAny_bind <| wpAny_seqItems hS rfl ?_
    show wpAny _ A.in1 (tryCatch (pyNext (.ref I)) _ >>= _) _ _ s
    refine wpAny_bind <| wpAny_tryCatch <| W.item j s _ _ lt hst fun v h1 k1 hv st1 kk => ?_
    have hS1 := kk S _ nw hS
    have fr : ∀ {f : Obj → Obj}, St (j + 1) (h1.update S f) := W.frame _ _ _ st1 fun b bf o e => (Heap.get?_update_other _ _ fun z : S = b => hSf (z ▸ bf)).trans e
    rcases hys with ⟨rfl, rfl⟩ | ⟨j0, vb, hPb, rfl⟩
    · show wpAny _ A.in1 (updateSeq S (fun _ => #[v, v]) >>= _) _ _ _
      refine wpAny_bind <| wpAny_updateSeq hS1 rfl ?_
      rw [nm]
      exact wpAny_pure ⟨plainId_quiet PySem.F.plain_max_loop _, ih 1 _ _ _ (by omega) lt fr (kq (kp hb kk)) (.inr ⟨by decide, v, hv, rfl⟩) (Heap.get?_update_self _ hS1 rfl) fun v' h2 k2 hv' b2 => hR v' h2 k2 hv' b2⟩
    · show wpAny _ A.in1 (tryCatch (holding [v, v] (richCompare .Gt v vb >>= _)) _ >>= _) _ _ _
      refine wpAny_bind <| wpAny_tryCatch <| wpAny_holding <| wpAny_bind <| hcmp j (argBest bt (j - 1)) v vb _ _ _ (kp hb kk) hv hPb <| wpAny_bind <| wpAny_holding <| wpAny_truthy_bool <| wpAny_bind <| wpAny_letGo <| wpAny_pure ?_
      have ab : argBest bt (j + 1 - 1) = if bt j (argBest bt (j - 1)) then j else argBest bt (j - 1) := by
        obtain ⟨j', rfl⟩ : ∃ j', j = j' + 1 := ⟨j - 1, by omega⟩
        rfl
      cases hbt : bt j (argBest bt (j - 1)) with
      | true =>
        rw [hbt, if_pos rfl] at ab
        simp only [if_true]
        refine wpAny_bind <| wpAny_updateSeq hS1 rfl <| wpAny_bind <| wpAny_letGo ?_
        rw [nm]
        exact wpAny_pure ⟨plainId_quiet PySem.F.plain_max_loop _, ih (j + 1) _ _ _ (by omega) lt fr (kq (kp hb kk)) (.inr ⟨by omega, v, by rw [ab]; exact hv, rfl⟩) (Heap.get?_update_self _ hS1 rfl) fun v' h2 k2 hv' b2 => hR v' h2 k2 hv' b2⟩
      | false =>
        rw [hbt, if_neg (by decide)] at ab
        simp only [Bool.false_eq_true, if_false]
        refine wpAny_bind <| wpAny_letGo ?_
        rw [nm]
        exact wpAny_pure ⟨plainId_quiet PySem.F.plain_max_loop _, ih (j + 1) _ _ c (by omega) lt st1 (kp hb kk) (.inr ⟨by omega, vb, by rw [ab]; exact hPb, rfl⟩) hS1 fun v' h2 k2 hv' b2 => hR v' h2 k2 hv' b2⟩
end
section
variable {prog : Program} {w : World} {A : Around} {E : Value → Shared → Prop} {s : Shared}
def IsPair (h : Heap) (a : Addr) (p : Int × Int) : Prop := ∃ t1 t2 n dd sl, h.get? a = some (pairO p t1 t2 n dd sl)
theorem isPair_of {h : Heap} {a : Addr} {x y : Int} {its : List Value} (hi : IntsAre its [x, y]) (ht : IsTup h a its.toArray) : IsPair h a (x, y) := by
  obtain ⟨⟨cls, dd, data, sl⟩, ho, hc, n, hd⟩ := ht
  cases hi with
  | cons _ t1 h2 =>
    cases h2 with
    | cons _ t2 h3 =>
      cases h3
      simp only at hc hd
      subst hc hd
      exact ⟨t1, t2, n, dd, sl, ho⟩
theorem gt_pairs {a b : Addr} {p q : Int × Int} {Q : Value → Shared → Prop} (ha : IsPair s.heap a p) (hb : IsPair s.heap b q) (hu : A.units < cLine) (h : Q (.bool (gtP p q)) s) : wpAny (model prog w) A (richCompare .Gt (.ref a) (.ref b)) Q E s := by
  obtain ⟨t1, t2, n, dd, sl, ha⟩ := ha
  obtain ⟨u1, u2, n2, dd2, sl2, hb⟩ := hb
  exact richCompare_meets_room (op := .Gt) ⟨_, ha, rfl⟩ ⟨_, hb, rfl⟩ PySem.F.slot_tuple_gt PySem.F.entry_tuple_gt (PySem.F.args_tuple_gt_2 _ _) (pair_gt a b p q t1 t2 u1 u2 n n2 dd dd2 sl sl2)
    ⟨ha, hb, show Value.bool (gtP p q) ≠ Value.notImplemented ∧ Q (.bool (gtP p q)) s from ⟨(fun x => nomatch x), h⟩⟩ hu
theorem gtP_tot {p q r : Int × Int} (h1 : gtP p q = false) (h2 : gtP q r = false) : gtP p r = false := by
  unfold gtP at *
  have := of_decide_eq_false h1
  have := of_decide_eq_false h2
  exact decide_eq_false (by omega)
theorem gtP_irr (p : Int × Int) : gtP p p = false := decide_eq_false (by omega)
theorem gtP_asym {p q : Int × Int} (h : gtP p q = true) : gtP q p = false := by
  unfold gtP at *
  have := of_decide_eq_true h
  exact decide_eq_false (by omega)
theorem best_ok (f : Nat → Int × Int) : ∀ k, argBest (fun i j => gtP (f i) (f j)) k ≤ k ∧ ∀ j, j ≤ k → gtP (f j) (f (argBest (fun i j => gtP (f i) (f j)) k)) = false
  | 0 => ⟨Nat.le_refl _, fun j hj => by
    obtain rfl : j = 0 := by omega
    exact gtP_irr _⟩
  | k + 1 => by
    obtain ⟨h1, h2⟩ := best_ok f k
    have e : argBest (fun i j => gtP (f i) (f j)) (k + 1) = if gtP (f (k + 1)) (f (argBest (fun i j => gtP (f i) (f j)) k)) then k + 1 else argBest (fun i j => gtP (f i) (f j)) k := rfl
    rw [e]
    cases c : gtP (f (k + 1)) (f (argBest (fun i j => gtP (f i) (f j)) k)) with
    | true =>
      rw [if_pos rfl]
      refine ⟨Nat.le_refl _, fun j hj => ?_⟩
      rcases Nat.lt_or_ge j (k + 1) with l | l
      · exact gtP_tot (h2 j (by omega)) (gtP_asym c)
      · obtain rfl : j = k + 1 := by omega
        exact gtP_irr _
    | false =>
      rw [if_neg (by decide)]
      refine ⟨by omega, fun j hj => ?_⟩
      rcases Nat.lt_or_ge j (k + 1) with l | l
      · exact h2 j (by omega)
      · obtain rfl : j = k + 1 := by omega
        exact c
/-- max of a list of tuples of two ints: one of them, and none is greater -/
theorem max_pairs {l : Addr} {ads : List Addr} {ps : List (Int × Int)} {Q : Value → Shared → Prop} (hh : A.handled = none) (hl : s.heap.IsList l (ads.map Value.ref).toArray) (el : ads.length = ps.length)
    (hp : ∀ (i : Nat) (a : Addr) (p : Int × Int), ads[i]? = some a → ps[i]? = some p → IsPair s.heap a p) (hne : 0 < ps.length) (hu : A.units + 1 < cLine)
    (h : ∀ h' tk (i : Nat) (a : Addr) (p : Int × Int), (∀ b o, s.heap.get? b = some o → h'.get? b = some o) → ads[i]? = some a → ps[i]? = some p → (∀ q ∈ ps, gtP q p = false) → Q (.ref a) { s with heap := h', toks := tk }) :
    wpAny (model prog w) A (call (.builtin "max") [.ref l]) Q E s := by
  have nm : (toString "max" ++ toString ".loop" : String) = "max.loop" := by decide
  have hlt : l < s.heap.objs.size := by obtain ⟨_, e, _⟩ := hl; exact Heap.lt_size e
  have sz : (ads.map Value.ref).toArray.size = ps.length := by simp [el]
  refine call_function_tree PySem.F.kind_max PySem.F.plain_max PySem.F.entry_max (PySem.F.args_max1 _) ?_
  show wpAny _ A.in1 (Builtin.Builtins.bindParams "max" ["key", "default"] 0 ⟨[], []⟩ >>= _) _ _ s
  refine wpAny_bind <| wpAny_of_eq (show Builtin.Builtins.bindParams "max" ["key", "default"] 0 ⟨[], []⟩ = pure [none, none] from rfl) <| wpAny_bind <| wpAny_pure <| wpAny_bind <| wpAny_pyIter_list hl <| wpAny_bind <| wpAny_newObj_type ?_
  rw [nm]
  have W := Walks.list (prog := prog) (w := w) (A := A.in1) hh s.heap.objs.size l (Nat.ne_of_lt hlt) (ads.map Value.ref).toArray
  refine wpAny_pure ⟨plainId_quiet PySem.F.plain_max_loop _, mx_turns (n0 := s.heap.objs.size) (h0 := s.heap) W (fun i j => gtP ((ps[i]?).getD (0, 0)) ((ps[j]?).getD (0, 0))) (fun i j vi vj s' Q' E' hb hi hj hq => ?_) _ ?_ ?_ ?_ (by rw [sz]; exact hne) _ 0 _ #[] _ rfl (Nat.zero_le _) ?_ ?_ (.inl ⟨rfl, rfl⟩) (Heap.get?_push_size _ rfl) fun v h' tk hv hb => ?_⟩
  · have one : ∀ i v, (ads.map Value.ref).toArray[i]? = some v → ∃ (a : Addr) (p : Int × Int), v = Value.ref a ∧ ps[i]? = some p ∧ IsPair s'.heap a p := fun i v e => by
      rw [List.getElem?_toArray, List.getElem?_map] at e
      obtain ⟨a, ea, rfl⟩ := Option.map_eq_some_iff.mp e
      have il := (List.getElem?_eq_some_iff.mp ea).1
      have ep : ps[i]? = some ps[i] := List.getElem?_eq_getElem (by omega)
      obtain ⟨t1, t2, n, dd, sl, eo⟩ := hp i a _ ea ep
      exact ⟨a, _, rfl, ep, t1, t2, n, dd, sl, hb a _ (Heap.lt_size eo) eo⟩
    obtain ⟨a, p, rfl, ep, pa⟩ := one i vi hi
    obtain ⟨b, q, rfl, eq, pb⟩ := one j vj hj
    rw [ep, eq] at hq
    exact gt_pairs (A := A.in1) pa pb (show A.in1.units < cLine from hu) hq
  · intro z
    rw [Heap.size_push] at z
    rcases List.mem_cons.mp z with z | z
    · exact absurd z (Nat.succ_ne_self _)
    · have := List.mem_singleton.mp z
      exact absurd hlt (by rw [← this]; exact Nat.not_lt.mpr (Nat.le_succ _))
  · intro b m
    rw [List.mem_singleton.mp m]
    exact Nat.le_refl _
  · rw [Heap.size_push]
    exact Nat.le_succ _
  · refine W.frame _ _ _ ⟨⟨_, Heap.get?_push_size _ rfl, rfl, rfl⟩, hl.push _⟩ fun b _ o e => Heap.get?_push_of_some _ e
  · exact fun b o _ e => Heap.get?_push_of_some _ (Heap.get?_push_of_some _ e)
  · obtain ⟨h1, h2⟩ := best_ok (fun i => (ps[i]?).getD (0, 0)) ((ads.map Value.ref).toArray.size - 1)
    rw [List.getElem?_toArray, List.getElem?_map] at hv
    obtain ⟨a, ea, rfl⟩ := Option.map_eq_some_iff.mp hv
    have il := (List.getElem?_eq_some_iff.mp ea).1
    have ep : ps[argBest (fun i j => gtP ((ps[i]?).getD (0, 0)) ((ps[j]?).getD (0, 0))) ((ads.map Value.ref).toArray.size - 1)]? = some _ := List.getElem?_eq_getElem (by omega)
    refine h h' tk _ a _ (fun b o e => hb b o (Heap.lt_size e) e) ea ep fun q m => ?_
    obtain ⟨j, ej⟩ := List.getElem?_of_mem m
    have jl := (List.getElem?_eq_some_iff.mp ej).1
    have := h2 j (by rw [sz]; omega)
    rw [ep, ej] at this
    exact this
end
section
variable {X : Cx}
/-- max(xs) of a list of tuples of two ints -/
def rMaxT (K : PySem.W.Frag) : List V → Hp → VK → Prop := fun vs H Q => ∃ (l : Addr) (ads : List Addr) (ps : List (Int × Int)), vs = [V.ref l] ∧ SqL K H l (ads.map V.ref) ∧ ads.length = ps.length ∧ 0 < ps.length ∧
  (∀ (i : Nat) (a : Addr) (p : Int × Int), ads[i]? = some a → ps[i]? = some p → SqT K H a [.int p.1, .int p.2]) ∧ ∀ (i : Nat) (a : Addr) (p : Int × Int), ads[i]? = some a → ps[i]? = some p → (∀ q ∈ ps, gtP q p = false) → Q (.ref a) H
theorem vals_refs : ∀ {as : List Addr} {us : List Value}, Vals (as.map V.ref) us → us = as.map Value.ref
  | [], us, r => by cases r; rfl
  | a :: as, us, r => by
    cases r with
    | cons x t =>
      cases x
      rw [vals_refs t]
      rfl
theorem cr_maxT (hc : X.calm = true) (hu : X.A.units + 1 < cLine) : CallR X (.builtin "max") (rMaxT X.K) := by
  intro pins s σ H vs us Q I r h
  obtain ⟨l, ads, ps, rfl, hs, el, hne, hp, q⟩ := h
  obtain ⟨its, rv, hl, _⟩ := I.list hs
  rw [Vals.ref1 r]
  rw [vals_refs rv] at hl
  refine max_pairs (I.ok.hd hc) hl.isList el (fun i a p ea ep => ?_) hne hu fun h' tk i a p hk ea ep hq => ⟨.ref a, H, I.kept hk, rfl, q i a p ea ep hq⟩
  obtain ⟨us2, r2, p2, _⟩ := I.tuple (hp i a p ea ep)
  have i2 : IntsAre us2 [p.1, p.2] := L2.intsAre_of (ns := [p.1, p.2]) r2
  exact isPair_of i2 p2
end
end MZ
/-! The stitch above a loop, row by row; how ends below and children above hang together. -/
namespace MZ
open PySem PySem.Spec PyProof.Rows L2 LK MY
def fVal (a b : Nat) (z : Int) (q : Spn) : Int := (q.nw : Int) + (z - (q.lo : Int)) / (a : Int) * (b : Int)
def gVal (a b : Nat) (z : Int) (q : Spn) : Int := (q.ls : Int) + (z - (q.lo : Int)) / (a : Int) * (b : Int)
/-- the first and the last loop of the stitch above -/
def fE (L : List Spn) (a b : Nat) (z : Int) : Int := maxL (L.map (fVal a b z))
def gE (L : List Spn) (a b : Nat) (z : Int) : Int := maxL (L.map (gVal a b z))
section
variable {L : List Spn} {off a b : Nat} (S : SpOk L off a b)
include S
theorem SpOk.fval {q : Spn} (z : Int) : ∃ k : Int, fVal a b z q = q.nw + k * b ∧ gVal a b z q = q.ls + k * b ∧ (q.lo : Int) + k * a ≤ z ∧ ∀ l : Int, (q.lo : Int) + l * a ≤ z → l ≤ k := by
  have a0 : (0 : Int) < a := by have := S.a1; omega
  obtain ⟨h1, h2⟩ := (div_iff a0).mp (rfl : (z - (q.lo : Int)) / (a : Int) = _)
  refine ⟨(z - (q.lo : Int)) / (a : Int), rfl, rfl, by omega, fun l hl => ?_⟩
  refine Classical.byContradiction fun y => ?_
  have := mul_mono (a := (a : Int)) (by omega) (show (z - (q.lo : Int)) / (a : Int) + 1 ≤ l by omega)
  omega
theorem SpOk.fle {q : Spn} {k z : Int} (m : q ∈ L) (h : (q.lo : Int) + k * a ≤ z) : (q.nw : Int) + k * b ≤ fE L a b z ∧ (q.ls : Int) + k * b ≤ gE L a b z := by
  obtain ⟨_, h2⟩ := maxL_ok (l := L.map (fVal a b z)) (by simp [S.ne])
  obtain ⟨_, g2⟩ := maxL_ok (l := L.map (gVal a b z)) (by simp [S.ne])
  have := h2 _ (List.mem_map_of_mem m)
  have := g2 _ (List.mem_map_of_mem m)
  obtain ⟨l, e, e', _, h3⟩ := S.fval (q := q) z
  have := mul_mono (a := (b : Int)) (by omega) (h3 k h)
  show _ ≤ maxL _ ∧ _ ≤ maxL _
  omega
/-- both are of one stitch -/
theorem SpOk.fmem (z : Int) : ∃ q ∈ L, ∃ k : Int, fE L a b z = q.nw + k * b ∧ gE L a b z = q.ls + k * b ∧ (q.lo : Int) + k * a ≤ z := by
  obtain ⟨h, _⟩ := maxL_ok (l := L.map (fVal a b z)) (by simp [S.ne])
  obtain ⟨q, m, e⟩ := List.mem_map.mp h
  obtain ⟨k, h1, _, h2, _⟩ := S.fval (q := q) z
  obtain ⟨h', _⟩ := maxL_ok (l := L.map (gVal a b z)) (by simp [S.ne])
  obtain ⟨p, mp, ep⟩ := List.mem_map.mp h'
  obtain ⟨l, _, p1, p2, _⟩ := S.fval (q := p) z
  have e1 : fE L a b z = q.nw + k * b := e.symm.trans h1
  have e2 : gE L a b z = p.ls + l * b := ep.symm.trans p1
  have q1 := S.ok q m
  have r1 := S.ok p mp
  have f1 := S.fle m h2
  have f2 := S.fle mp p2
  rcases Int.le_total ((p.lo : Int) + l * a) (q.lo + k * a) with c | c
  · have o := S.order (k := l) (l := k) mp m (by omega)
    exact ⟨q, m, k, e1, by omega, h2⟩
  · have o := S.order (k := k) (l := l) m mp (by omega)
    exact ⟨p, mp, l, by omega, e2, p2⟩
/-- the stitch that takes z -/
theorem SpOk.fhit {q : Spn} {k z : Int} (m : q ∈ L) (h1 : (q.lo : Int) + k * a ≤ z) (h2 : z ≤ q.hi + k * a) : fE L a b z = q.nw + k * b ∧ gE L a b z = q.ls + k * b := by
  obtain ⟨p, mp, l, e1, e2, h⟩ := S.fmem z
  have o := S.order (k := l) (l := k) mp m (by omega)
  have f1 := S.fle m h1
  omega
theorem SpOk.fper (z k : Int) : fE L a b (z + k * a) = fE L a b z + k * b ∧ gE L a b (z + k * a) = gE L a b z + k * b := by
  obtain ⟨q, m, l, e, e', h⟩ := S.fmem z
  obtain ⟨q', m', l', d, d', h'⟩ := S.fmem (z + k * a)
  have h1 := S.fle (k := l + k) (z := z + k * a) m (by rw [Int.add_mul]; omega)
  have h2 := S.fle (k := l' - k) (z := z) m' (by rw [Int.sub_mul]; omega)
  rw [Int.add_mul] at h1
  rw [Int.sub_mul] at h2
  omega
/-- the left end lies at y or left of it iff the first child of y lies at x or right of it -/
theorem SpOk.lgal {x y : Int} : lE L a b x ≤ y ↔ x ≤ fE L a b y := by
  constructor
  · intro h
    obtain ⟨q, m, k, e, h1⟩ := S.lmem x
    have := S.fle (z := y) (k := k) m (by omega)
    omega
  · intro h
    obtain ⟨q, m, k, e, _, h1⟩ := S.fmem y
    have := S.lle (x := x) (k := k) m (by omega)
    omega
theorem SpOk.rgal {x y : Int} (hit : ∃ q ∈ L, ∃ k : Int, (q.lo : Int) + k * a ≤ y ∧ y ≤ q.hi + k * a) : y ≤ rE L a b x ↔ gE L a b y ≤ x := by
  constructor
  · intro h
    obtain ⟨q, m, k, e, h1⟩ := S.rmem x
    obtain ⟨p, mp, l, _, e2, h2⟩ := S.fmem y
    have o := S.order (k := l) (l := k) mp m (by omega)
    omega
  · intro h
    obtain ⟨q, m, k, h1, h2⟩ := hit
    obtain ⟨_, e⟩ := S.fhit m h1 h2
    have := S.rle (x := x) (k := k) m (by omega)
    omega
/-- the greatest pair -/
theorem SpOk.fmax {z : Int} {p : Int × Int} (hm : p ∈ L.map fun q => (fVal a b z q, gVal a b z q)) (h : ∀ q ∈ L.map (fun q => (fVal a b z q, gVal a b z q)), gtP q p = false) : p = (fE L a b z, gE L a b z) := by
  obtain ⟨q, m, rfl⟩ := List.mem_map.mp hm
  obtain ⟨r, mr, k, e1, e2, h1⟩ := S.fmem z
  obtain ⟨l, d1, d2, d3, d4⟩ := S.fval (q := r) z
  obtain ⟨l', g1, g2, g3, g4⟩ := S.fval (q := q) z
  have f1 := S.fle m g3
  have f2 := S.fle mr d3
  have := mul_mono (a := (b : Int)) (by omega) (d4 k h1)
  have nb := of_decide_eq_false (h _ (List.mem_map_of_mem (f := fun q => (fVal a b z q, gVal a b z q)) mr))
  dsimp only at nb
  refine Prod.ext ?_ ?_
  · show fVal a b z q = fE L a b z
    omega
  · show gVal a b z q = gE L a b z
    omega
end
/-- every loop of a right row is taken by a stitch -/
theorem spn_hit : ∀ (ss : List Sti) (lo nw r : Nat), r < tks ss → ∃ q ∈ spn lo nw ss, q.lo ≤ lo + r ∧ lo + r ≤ q.hi
  | [], lo, nw, r, h => absurd h (Nat.not_lt_zero _)
  | s :: ss, lo, nw, r, h => by
    have e1 : tks (s :: ss) = s.1 + tks ss := by
      unfold tks
      rw [List.map_cons, List.sum_cons]
    unfold spn
    by_cases c : r < s.1
    · refine ⟨⟨lo, lo + s.1 - 1, nw, nw + s.2 - 1⟩, List.mem_append_left _ (by rw [if_pos (by omega)]; exact List.mem_singleton.mpr rfl), ?_, ?_⟩
      · show lo ≤ lo + r
        omega
      · show lo + r ≤ lo + s.1 - 1
        omega
    · obtain ⟨q, m, h1, h2⟩ := spn_hit ss (lo + s.1) (nw + s.2) (r - s.1) (by omega)
      exact ⟨q, List.mem_append_right _ m, by omega, by omega⟩
theorem OkRow.hit {c : Nat} {r : Rw} (h : OkRow c r) (y : Int) : ∃ q ∈ spR r, ∃ k : Int, (q.lo : Int) + k * c ≤ y ∧ y ≤ q.hi + k * c := by
  have c1 : (0 : Int) < c := by have := h.off; omega
  have r0 := Int.emod_nonneg (y - r.off) (Int.ne_of_gt c1)
  have r1 := Int.emod_lt_of_pos (y - r.off) c1
  have e := Int.mul_ediv_add_emod (y - r.off) c
  obtain ⟨n, hn⟩ := Int.eq_ofNat_of_zero_le r0
  obtain ⟨q, m, h1, h2⟩ := spn_hit r.sts r.off 0 n (by rw [h.sts.tk]; omega)
  refine ⟨q, m, (y - r.off) / c, ?_, ?_⟩
  · rw [Int.mul_comm]
    omega
  · rw [Int.mul_comm]
    omega
/-! ### in a chart -/
def upF (size : Nat) (rs : List Rw) (i : Nat) (z : Int) : Int := fE (spR (rwAt rs ((i + 1) % rs.length))) (cn size rs ((i + 1) % rs.length)) (cn size rs ((i + 1) % rs.length + 1)) z
def upG (size : Nat) (rs : List Rw) (i : Nat) (z : Int) : Int := gE (spR (rwAt rs ((i + 1) % rs.length))) (cn size rs ((i + 1) % rs.length)) (cn size rs ((i + 1) % rs.length + 1)) z
theorem OkCh.wrapU {size : Nat} {rs : List Rw} (h : OkCh size rs) {i : Nat} (il : i < rs.length) : cn size rs ((i + 1) % rs.length) = cn size rs (i + 1) := by
  by_cases e : i + 1 = rs.length
  · rw [e, Nat.mod_self, h.wrap.1, h.wrap.2]
  · rw [Nat.mod_eq_of_lt (by omega)]
theorem upF_per {size : Nat} {rs : List Rw} (h : OkCh size rs) : Per rs.length (upF size rs) true (fun i => cn size rs (i + 1)) := fun i il x k => by
  have := ((h.sp (i := (i + 1) % rs.length) (Nat.mod_lt _ (by omega))).fper x k).1
  rw [h.wrapU il] at this
  unfold upF
  rw [h.wrapU il]
  exact this
theorem upG_per {size : Nat} {rs : List Rw} (h : OkCh size rs) : Per rs.length (upG size rs) true (fun i => cn size rs (i + 1)) := fun i il x k => by
  have := ((h.sp (i := (i + 1) % rs.length) (Nat.mod_lt _ (by omega))).fper x k).2
  rw [h.wrapU il] at this
  unfold upG
  rw [h.wrapU il]
  exact this
theorem lgal1 {size : Nat} {rs : List Rw} (h : OkCh size rs) {i : Nat} (il : i < rs.length) (x y : Int) : lEnd size rs (nxR rs.length true i) x ≤ y ↔ x ≤ upF size rs i y :=
  (h.sp (i := (i + 1) % rs.length) (Nat.mod_lt _ (by omega))).lgal
theorem rgal1 {size : Nat} {rs : List Rw} (h : OkCh size rs) {i : Nat} (il : i < rs.length) (x y : Int) : y ≤ rEnd size rs (nxR rs.length true i) x ↔ upG size rs i y ≤ x :=
  (h.sp (i := (i + 1) % rs.length) (Nat.mod_lt _ (by omega))).rgal ((h.row (i := (i + 1) % rs.length) (Nat.mod_lt _ (by omega))).2.1.hit y)
theorem nxR_back {n i : Nat} (h : i < n) : nxR n false (nxR n true i) = i := by
  unfold nxR
  rw [if_pos rfl, if_neg (by decide)]
  by_cases e : i + 1 = n
  · rw [e, Nat.mod_self, show 0 + n - 1 = i by omega, Nat.mod_eq_of_lt h]
  · rw [Nat.mod_eq_of_lt (show i + 1 < n by omega), show i + 1 + n - 1 = i + n by omega, Nat.add_mod_right, Nat.mod_eq_of_lt h]
theorem rowD_add {n : Nat} {up : Bool} : ∀ (a b i : Nat), rowD n up (a + b) i = rowD n up b (rowD n up a i)
  | 0, b, i => by rw [Nat.zero_add]; rfl
  | a + 1, b, i => by
    rw [show a + 1 + b = (a + b) + 1 by omega]
    exact rowD_add a b _
theorem rowD_back {n : Nat} : ∀ (k i : Nat), i < n → rowD n false k (rowD n true k i) = i
  | 0, i, _ => rfl
  | k + 1, i, h => by
    show rowD n false (k + 1) (rowD n true k (nxR n true i)) = i
    rw [rowD_add, rowD_back k _ (nxR_lt (by omega) true i)]
    exact nxR_back h
theorem lgalK {size : Nat} {rs : List Rw} (h : OkCh size rs) : ∀ (k i : Nat) (x y : Int), i < rs.length → (walkD rs.length (lEnd size rs) false k (rowD rs.length true k i) x ≤ y ↔ x ≤ walkD rs.length (upF size rs) true k i y)
  | 0, i, x, y, _ => Iff.rfl
  | k + 1, i, x, y, il => by
    have nl := nxR_lt (n := rs.length) (by omega) true i
    have e : walkD rs.length (lEnd size rs) false (k + 1) (rowD rs.length true (k + 1) i) x = lEnd size rs (nxR rs.length true i) (walkD rs.length (lEnd size rs) false k (rowD rs.length true k (nxR rs.length true i)) x) := by
      rw [walkD_add]
      show lEnd size rs (rowD rs.length false k (rowD rs.length true k (nxR rs.length true i))) _ = _
      rw [rowD_back k _ nl]
      rfl
    rw [e, lgal1 h il]
    exact lgalK h k _ x _ nl
theorem rgalK {size : Nat} {rs : List Rw} (h : OkCh size rs) : ∀ (k i : Nat) (x y : Int), i < rs.length → (y ≤ walkD rs.length (rEnd size rs) false k (rowD rs.length true k i) x ↔ walkD rs.length (upG size rs) true k i y ≤ x)
  | 0, i, x, y, _ => Iff.rfl
  | k + 1, i, x, y, il => by
    have nl := nxR_lt (n := rs.length) (by omega) true i
    have e : walkD rs.length (rEnd size rs) false (k + 1) (rowD rs.length true (k + 1) i) x = rEnd size rs (nxR rs.length true i) (walkD rs.length (rEnd size rs) false k (rowD rs.length true k (nxR rs.length true i)) x) := by
      rw [walkD_add]
      show rEnd size rs (rowD rs.length false k (rowD rs.length true k (nxR rs.length true i))) _ = _
      rw [rowD_back k _ nl]
      rfl
    rw [e, rgal1 h il]
    exact rgalK h k _ x _ nl
end MZ
/-! Arguments by name, backwards. -/
namespace MZ
open PySem PySem.Spec PyProof.Rows L2 LK MY
theorem vals_len : ∀ {vs : List V} {us : List Value}, Vals vs us → vs.length = us.length
  | _, _, .nil => rfl
  | _, _, .cons _ t => congrArg (· + 1) (vals_len t)
/-- all by name, in the order backwards -/
def rvN (n : Nat) {α : Type} (a b : List α) : List α := if a.length = 0 ∧ b.length = n then b.reverse else []
theorem vals_rev {vs : List V} {us : List Value} (h : Vals vs us) : Vals vs.reverse us.reverse := by
  induction h with
  | nil => exact .nil
  | cons r t ih =>
    rw [List.reverse_cons, List.reverse_cons]
    exact ih.append (.cons r .nil)
theorem rvN_rel {n : Nat} {vs : List V} {us : List Value} {zs : List V} {ws : List Value} (a : Vals vs us) (b : Vals zs ws) : Vals (rvN n vs zs) (rvN n us ws) := by
  unfold rvN
  rw [vals_len a, vals_len b]
  split
  · exact vals_rev b
  · exact .nil
def fwN (n : Nat) {α : Type} (a b : List α) : List α := if a.length = 0 ∧ b.length = n then b else []
theorem fwN_rel {n : Nat} {vs : List V} {us : List Value} {zs : List V} {ws : List Value} (a : Vals vs us) (b : Vals zs ws) : Vals (fwN n vs zs) (fwN n us ws) := by
  unfold fwN
  rw [vals_len a, vals_len b]
  split
  · exact b
  · exact .nil
def rv3 {α : Type} : List α → List α → List α := rvN 3
def rv4 {α : Type} : List α → List α → List α := rvN 4
def rv5 {α : Type} : List α → List α → List α := rvN 5
theorem rv3_eq {α : Type} {a b c : α} : rv3 [] [a, b, c] = [c, b, a] := rfl
theorem rv5_eq {α : Type} {a b c d e : α} : rv5 [] [a, b, c, d, e] = [e, d, c, b, a] := rfl
theorem good_pairs (a b c d : Int) : (PyData.list [.tuple [.int a, .int b], .tuple [.int c, .int d]]).canLay0 = true ∧ (PyData.list [.tuple [.int a, .int b], .tuple [.int c, .int d]]).depth < 6 ∧ (PyData.list [.tuple [.int a, .int b], .tuple [.int c, .int d]]).depth ≤ 60 := ⟨rfl, by show 2 < 6; decide, by show 2 ≤ 60; decide⟩
theorem dp_pair {K : PySem.W.Frag} {H : Hp} {v : V} {a b : Int} (h : Dp K H v (.tuple [.int a, .int b])) : ∃ p, v = .ref p ∧ SqT K H p [.int a, .int b] := by
  cases h with
  | tup q r =>
    obtain rfl := ints_back (ns := [a, b]) r
    exact ⟨_, rfl, q⟩
end MZ
/-! told right -/
namespace X6
open PySem PySem.Spec PyProof.Rows L2 LK MXo MXi MXp MXg MXq MY MZ MSu TL
def spTld (K : PySem.W.Frag) (CC : Addr) : Sp := fun vs H Q _ => ∃ (x t L G : Addr) (xs : List V) (ys : List Str) (ls : List Lp) (fs ms : List Int), vs = [.ref x, .ref t] ∧ H t = some (.tup [.ref L, .ref G]) ∧ H L = some (.lst xs) ∧ DpAll K H xs (ls.map lpD) ∧ H G = some (.lst (fs.map V.int)) ∧ IsC K CC H x ls ms ∧ ms.Perm fs ∧ ms.Pairwise (· < ·) ∧ OkLs ys ls ∧ (∀ y ∈ ys, Yn y) ∧ ls.length ≤ 1000 ∧ OkFs ls.length fs ∧ ∀ H', Same H H' → Q (.bl true) H'
section
variable {P : Program} {w : World} {K : PySem.W.Frag} {mg : Str → Option Value} {base : Heap} {CC : Addr}
abbrev sTld : Stmt := top 42
theorem scTld : FnScope ["cloth_here", "stock", "due", "again"] ["cloth_here", "stock"] (defScope sTld) := ⟨rfl, rfl, rfl, by decide +kernel, rfl, by decide +kernel, by decide +kernel⟩
theorem ok_Tld {f : Addr} {fd : FuncData} (F : Fun K "_law_told_right" "_law_told_right" sTld f fd) (B : Bl mg) (R : Pr2 P w K mg base CC)
    {f__law_cloth_text : Addr} {d__law_cloth_text : FuncData} (G__law_cloth_text : FnOk P w K mg base CX0 2 f__law_cloth_text d__law_cloth_text ["loops_here", "fast_here"] (spCtx K)) (g__law_cloth_text : mg "_law_cloth_text" = some (.ref f__law_cloth_text)) (k__law_cloth_text : PySem.W.keepIn K (.ref f__law_cloth_text) = true) (b__law_cloth_text : Binds K d__law_cloth_text ["loops_here", "fast_here"] [])
    {f_write_cloth : Addr} {d_write_cloth : FuncData} (G_write_cloth : FnOk P w K mg base CX0 4 f_write_cloth d_write_cloth ["cloth"] (spWrc K CC)) (g_write_cloth : mg "write_cloth" = some (.ref f_write_cloth)) (k_write_cloth : PySem.W.keepIn K (.ref f_write_cloth) = true) (b_write_cloth : Binds K d_write_cloth ["cloth"] [])
    {f_read_cloth : Addr} {d_read_cloth : FuncData} (G_read_cloth : FnOk P w K mg base CX0 8 f_read_cloth d_read_cloth ["text"] (spRdc K CC)) (g_read_cloth : mg "read_cloth" = some (.ref f_read_cloth)) (k_read_cloth : PySem.W.keepIn K (.ref f_read_cloth) = true) (b_read_cloth : Binds K d_read_cloth ["text"] [])
    {f__law_matched : Addr} {d__law_matched : FuncData} (G__law_matched : FnOk P w K mg base CX0 6 f__law_matched d__law_matched ["found", "due"] (spM K 6)) (g__law_matched : mg "_law_matched" = some (.ref f__law_matched)) (k__law_matched : PySem.W.keepIn K (.ref f__law_matched) = true) (b__law_matched : Binds K d__law_matched ["found", "due"] []) (U : CloQ P w K mg base CC) (q_write_cloth : KBinds K d_write_cloth ["cloth"] ["cloth"] (fwN 1) (fwN 1)) (q_read_cloth : KBinds K d_read_cloth ["text"] ["text"] (fwN 1) (fwN 1)) : FnOk P w K mg base CX0 9 f fd ["cloth_here", "stock"] (spTld K CC) := by
  refine F.ok scTld (fun vs H Q E h => ?_) (fun cdv A outer s H vs Q E hr h => ?_)
  · obtain ⟨x, t, L, G, xs, ys, ls, fs, ms, rfl, _⟩ := h
    rfl
  · obtain ⟨x, t, L, G, xs, ys, ls, fs, ms, rfl, et, eL, dL, eG, ic, pm, up, ok, hy, ln, okf, k⟩ := h
    refine ⟨_, pss_cons (ps_set (i := 2) scTld.nd rfl (Or.inl rfl) (pe_call (E := E0) G__law_cloth_text (hr.mono (by decide)) rfl g__law_cloth_text k__law_cloth_text b__law_cloth_text .nil pass0 (pa_cons (pe_ix (ixt (K := K)) (pv 1) pe_int (fun _ _ => rfl)) (pa_cons (pe_ix (ixt (K := K)) (pv 1) pe_int (fun _ _ => rfl)) pa_nil))))
      (pss_cons (ps_if (PW.pt (pw_or (pt_not (pt_val (pe_call (E := E0) G__law_matched (hr.mono (by decide)) rfl g__law_matched k__law_matched b__law_matched .nil pass0 (pa_cons (pe_call (E := E0) G_write_cloth (hr.mono (by decide)) rfl g_write_cloth k_write_cloth b_write_cloth .nil pass0 (pa_cons (pv 0) pa_nil)) (pa_cons (pv 2) pa_nil))))) (pw_or1 (pt_not (pt_val (pe_call (E := E0) G__law_matched (hr.mono (by decide)) rfl g__law_matched k__law_matched b__law_matched .nil pass0 (pa_cons (pe_callK0 (E := E0) G_write_cloth (hr.mono (by decide)) rfl g_write_cloth k_write_cloth q_write_cloth pass0 (pk_cons (pv 0) pk_nil)) (pa_cons (pv 2) pa_nil)))))))) (pss_one (ps_ret pe_bl)) pss_nil)
      (pss_cons (ps_set (i := 3) scTld.nd rfl (Or.inl rfl) (pe_call (E := E0) G_read_cloth (hr.mono (by decide)) rfl g_read_cloth k_read_cloth b_read_cloth .nil pass0 (pa_cons (pv 2) pa_nil)))
      (pss_cons (ps_if (PW.pt (pw_or (pt_not (pt_val (pe_call (E := E0) G__law_matched (hr.mono (by decide)) rfl g__law_matched k__law_matched b__law_matched .nil pass0 (pa_cons (pe_prop (pv 3) R.cc R.aL R.oL (hr.mono (by decide)) R.bL .nil pass0 (by rfl)) (pa_cons (pe_ix (ixt (K := K)) (pv 1) pe_int (fun _ _ => rfl)) pa_nil))))) (pw_or1 (pt_not (pt_val (pe_call (E := E0) G__law_matched (hr.mono (by decide)) rfl g__law_matched k__law_matched b__law_matched .nil pass0 (pa_cons (pe_prop (pv 3) R.cc R.aF R.oF (hr.mono (by decide)) R.bF .nil pass0 (by rfl)) (pa_cons (pe_callB cr_sortedI (by rfl) (B "sorted" (by decide)) (by decide +kernel) (pa_cons (pe_ix (ixt (K := K)) (pv 1) pe_int (fun _ _ => rfl)) pa_nil)) pa_nil)))))))) (pss_one (ps_ret pe_bl)) pss_nil)
      (pss_one (ps_ret (pe_and (pe_cmpR op_is_bl (pe_cmpR (op_eqG (rcG_ins (E := E0) U.oQ U.eq U.eqF U.bQ pass0) (hr.mono (by decide))) (pv 3) (pv 0) (nomark _)) pe_bl (nomark _)) (pe_and (pe_cmpR op_is_bl (pe_cmpR (op_eqG (rcG_ins (E := E0) U.oQ U.eq U.eqF U.bQ pass0) (hr.mono (by decide))) (pe_callK0 (E := E0) G_read_cloth (hr.mono (by decide)) rfl g_read_cloth k_read_cloth q_read_cloth pass0 (pk_cons (pv 2) pk_nil)) (pv 3) (nomark _)) pe_bl (nomark _)) (pe_one (pe_cmpR op_eq (pe_call (E := E0) G_write_cloth (hr.mono (by decide)) rfl g_write_cloth k_write_cloth b_write_cloth .nil pass0 (pa_cons (pv 3) pa_nil)) (pv 2) (nomark _)))))))))), ?_⟩
    have ty2 : sizeLine = 16777216 := sizeLine_eq
    have dr := drn_of ok hy (by omega : ls.length ≤ 1000) okf
    have em : ms = srt fs := srt_of pm (up.imp fun h => Int.le_of_lt h)
    have okm : OkFs ls.length ms := ⟨pm.nodup_iff.mpr okf.1, fun z m => okf.2 z (pm.mem_iff.mp m)⟩
    have drm := drn_of ok hy (by omega : ls.length ≤ 1000) okm
    refine ⟨_, rfl, t, _, 0, _, rfl, rfl, SqT.of et, atI_nat (j := 0) rfl, _, rfl, t, _, 1, _, rfl, rfl, SqT.of et, atI_nat (j := 1) rfl, L, G, xs, ls, fs, rfl, SqL.of eL, dL, SqL.of eG, dr.ln, dr.lf, dr.wd, dr.par, dr.fst, fun H1 s1 => ?_⟩
    rw [← em]
    have tlay := lay_cloth (ls := ls) (ms := ms) dr.yn (fun l m z mz => ((dr.par l m).2 z mz).1) (fun z m => (drm.fst z m).1)
    generalize hT : clothD ls ms = T at tlay
    refine ⟨_, rfl, x, ls, ms, rfl, ic.same s1, dr.ln, drm.lf, dr.wd, dr.par, drm.fst, fun H2 s2 => ?_⟩
    rw [hT]
    refine ⟨_, rfl, .str T, .str T, .str T, rfl, .str T, .str T, tlay, Nat.zero_lt_succ _, Nat.zero_le _, rfl, fun H3 s3 => ?_⟩
    refine ⟨_, rfl, LK.ifF rfl ?_⟩
    refine ⟨_, rfl, x, ls, ms, rfl, ic.same ((s1.trans s2).trans s3), dr.ln, drm.lf, dr.wd, dr.par, drm.fst, fun H4 s4 => ?_⟩
    rw [hT]
    refine ⟨_, rfl, .str T, .str T, .str T, rfl, .str T, .str T, tlay, Nat.zero_lt_succ _, Nat.zero_le _, rfl, fun H5 s5 => ?_⟩
    refine ⟨_, rfl, LK.ifF rfl ?_⟩
    have s15 := ((s1.trans s2).trans (s3.trans s4)).trans s5
    refine ⟨_, rfl, ys, ls, ms, by rw [hT]; rfl, ok, hy, dr.ln, okm, up, fun q H6 nq s6 hq => ?_⟩
    obtain ⟨dq, Lq, Gq, xq, _, _, hq, hLq, dLq, hGq⟩ := hq
    have S6 := s15.trans s6
    dsimp only [gName, List.set, tSeq]
    refine ⟨_, rfl, q, dq, _, rfl, hq, q, dq, Lq, _, xq, rfl, hq, R.cc, R.n1, rfl, hLq, fun L1 nL1 => ?_⟩
    have s7 := same_new (o := .lst xq) nL1
    have e7 := upd_same (H := H6) (a := L1) (o := .lst xq)
    generalize upd H6 L1 (.lst xq) = H7 at s7 e7
    have S7 := S6.trans s7
    obtain ⟨shl, d1, d2, d3, d4⟩ := dr.data
    refine ⟨_, rfl, t, _, 0, _, rfl, rfl, SqT.of (S7 _ _ et), atI_nat (j := 0) rfl, ?_⟩
    refine ⟨.ref L1, .ref L, .list (ls.map lpD), rfl, .lst (SqL.of e7) (dps_same s7 dLq), .lst (SqL.of (S7 _ _ eL)) (dps_same S7 dL), d1, d2, d3, d4, fun H8 s8 => ⟨_, rfl, LK.ifF rfl ?_⟩⟩
    have s78 := s7.trans s8
    have S8 := S7.trans s8
    refine ⟨_, rfl, q, dq, _, rfl, s78 _ _ hq, q, dq, Gq, _, ms.map V.int, rfl, s78 _ _ hq, R.cc, R.n2, rfl, s78 _ _ hGq, fun L2 nL2 => ?_⟩
    have s9 := same_new (o := .lst (ms.map V.int)) nL2
    have e9 := upd_same (H := H8) (a := L2) (o := .lst (ms.map V.int))
    generalize upd H8 L2 (.lst (ms.map V.int)) = H9 at s9 e9
    have S9 := S8.trans s9
    refine ⟨_, rfl, t, _, 1, _, rfl, rfl, SqT.of (S9 _ _ et), atI_nat (j := 1) rfl, G, fs, rfl, SqL.of (S9 _ _ eG), fun ns M perm pw nM => ?_⟩
    rw [srt_of perm pw, ← em]
    have s10 := same_new (o := .lst (ms.map V.int)) nM
    have e10 := upd_same (H := H9) (a := M) (o := .lst (ms.map V.int))
    generalize upd H9 M (.lst (ms.map V.int)) = H10 at s10 e10
    obtain ⟨_, d1, d2, d3, d4⟩ := ints_data drm.lf
    refine ⟨.ref L2, .ref M, .list (ms.map PyData.int), rfl, .lst (SqL.of (s10 _ _ e9)) (dp_ints_of ms), .lst (SqL.of e10) (dp_ints_of ms), d1, d2, d3, d4, fun H11 s11 => ⟨_, rfl, LK.ifF rfl ?_⟩⟩
    have s71 := s78.trans (s9.trans (s10.trans s11))
    have S11 := S6.trans s71
    have icq : IsC K CC H11 q ls ms := ⟨dq, Lq, Gq, xq, s71 _ _ hq, s71 _ _ hLq, dps_same s71 dLq, s71 _ _ hGq⟩
    have icx := ic.same S11
    obtain ⟨dx, _, _, _, hx, _⟩ := id icx
    refine ⟨_, rfl, _, rfl, ⟨q, x, dq, dx, _, _, rfl, rfl, s71 _ _ hq, hx, ls, ms, shl, icq, icx⟩, fun H12 s12 => ?_⟩
    have s12 : Same H11 H12 := s12
    refine ⟨true, true, rfl, rfl, _, rfl, LK.ifT rfl ?_⟩
    refine ⟨_, rfl, ys, ls, ms, by rw [hT]; rfl, ok, hy, dr.ln, okm, up, fun r H13 nr s13 hr => ?_⟩
    obtain ⟨d_r, Lr, Gr, xr, _, _, hr, hLr, dLr, hGr⟩ := hr
    have s23 := s12.trans s13
    have icq3 := icq.same s23
    refine ⟨_, rfl, ⟨r, q, d_r, dq, _, _, rfl, rfl, hr, s23 _ _ (s71 _ _ hq), ls, ms, shl, ⟨d_r, Lr, Gr, xr, hr, hLr, dLr, hGr⟩, icq3⟩, fun H14 s14 => ?_⟩
    have s14 : Same H13 H14 := s14
    refine ⟨true, true, rfl, rfl, _, rfl, LK.ifT rfl ?_⟩
    refine ⟨_, rfl, q, ls, ms, rfl, icq3.same s14, dr.ln, drm.lf, dr.wd, dr.par, drm.fst, fun H15 s15 => ?_⟩
    rw [hT]
    have : decide (V.str T = V.str T) = true := decide_eq_true rfl
    refine ⟨_, rfl, rfl, ?_⟩
    rw [this]
    exact k _ ((S11.trans s23).trans (s14.trans s15))
end
end X6
/-! Cloth.along. -/
namespace X6
open PySem PySem.Spec PyProof.Rows L2 LK MXo MXi MXp MXv
/-- the loops on a thread -/
def alongD (ls : List Lp) (y : Str) : List Nat := (List.range ls.length).filter fun k => match ls[k]? with | some l => decide (l.1 = y) | none => false
def spAlg (K : PySem.W.Frag) (CC : Addr) : Sp := fun vs H Q _ => ∃ (x : Addr) (y : Str) (ls : List Lp) (ms : List Int), vs = [.ref x, .str y] ∧ IsC K CC H x ls ms ∧ ls.length ≤ 1000 ∧
  ∀ (p : Addr) (H' : Hp), H p = none → Same H H' → H' p = some (.lst (nI (alongD ls y))) → Q (.ref p) H'
section
variable {P : Program} {w : World} {K : PySem.W.Frag} {mg : Str → Option Value} {base : Heap} {CC : Addr}
end
end X6
/-! Pieces of threads: the mathematics, and lists of lists. -/
namespace X6
open PySem PySem.Spec PyProof.Rows L2 LK MY
abbrev Pst := List (List Nat) × List Nat
/-- one more loop of a thread -/
def cutP (cs : List Int) (st : Pst) (k : Nat) : Pst := if (k : Int) ∈ cs then (if st.2 = [] then st else (st.1 ++ [st.2], [])) else (st.1, st.2 ++ [k])
def endP (st : Pst) : List (List Nat) := if st.2 = [] then st.1 else st.1 ++ [st.2]
def threadP (ls : List Lp) (cs : List Int) (f : List (List Nat)) (y : Str) : List (List Nat) := endP ((alongD ls y).foldl (cutP cs) (f, []))
/-- the threads' names -/
def IsYs (ls : List Lp) (ys : List Str) : Prop := sortedS ys = true ∧ ys.Nodup ∧ ∀ y, y ∈ ys ↔ y ∈ ls.map (·.1)
open Classical in
noncomputable def ysOf (ls : List Lp) : List Str := if h : ∃ ys, IsYs ls ys then h.choose else []
theorem ysOf_eq {ls : List Lp} {ys : List Str} (h : IsYs ls ys) : ys = ysOf ls := by
  have e : ∃ ys, IsYs ls ys := ⟨ys, h⟩
  unfold ysOf
  rw [dif_pos e]
  have c := e.choose_spec
  exact uniq_sorted (sorted_pw h.1) (sorted_pw c.1) h.2.1 c.2.1 fun x => (h.2.2 x).trans (c.2.2 x).symm
noncomputable def partsD (ls : List Lp) (cs : List Int) : List (List Nat) := (ysOf ls).foldl (threadP ls cs) []
theorem fold_take {α β : Type} {f : β → α → β} {a : β} {xs : List α} {i : Nat} {x : α} (h : xs[i]? = some x) : (xs.take (i + 1)).foldl f a = f ((xs.take i).foldl f a) x := by
  rw [List.take_add_one, h, Option.toList_some, List.foldl_append]
  rfl
theorem cutP_len (cs : List Int) : ∀ (ks : List Nat) (st : Pst), (ks.foldl (cutP cs) st).1.length + (ks.foldl (cutP cs) st).2.length ≤ st.1.length + st.2.length + ks.length
  | [], st => by simp
  | k :: ks, st => by
    rw [List.foldl_cons, List.length_cons]
    refine Nat.le_trans (cutP_len cs ks _) ?_
    have : (cutP cs st k).1.length + (cutP cs st k).2.length ≤ st.1.length + st.2.length + 1 := by
      unfold cutP
      split
      · split
        · omega
        · simp
      · simp
        omega
    omega
theorem endP_len (st : Pst) : (endP st).length ≤ st.1.length + st.2.length := by
  unfold endP
  split
  · omega
  · rename_i h
    have := List.length_pos_iff.mpr h
    simp
    omega
theorem along_len (ls : List Lp) (y : Str) : (alongD ls y).length ≤ ls.length := by
  have := List.length_filter_le (fun k => match ls[k]? with | some l => decide (l.1 = y) | none => false) (List.range ls.length)
  rwa [List.length_range] at this
theorem thread_len (ls : List Lp) (cs : List Int) (f : List (List Nat)) (y : Str) : (threadP ls cs f y).length ≤ f.length + ls.length := by
  have a := endP_len ((alongD ls y).foldl (cutP cs) (f, []))
  have b := cutP_len cs (alongD ls y) (f, [])
  have c := along_len ls y
  simp only [List.length_nil] at b
  unfold threadP
  omega
theorem threads_len (ls : List Lp) (cs : List Int) : ∀ (ys : List Str) (f : List (List Nat)), (ys.foldl (threadP ls cs) f).length ≤ f.length + ys.length * ls.length
  | [], f => by simp
  | y :: ys, f => by
    rw [List.foldl_cons, List.length_cons, Nat.add_mul]
    have a := threads_len ls cs ys (threadP ls cs f y)
    have b := thread_len ls cs f y
    omega
theorem ys_len {ls : List Lp} {ys : List Str} (h : IsYs ls ys) : ys.length ≤ ls.length := by
  have := sub_len ys (ls.map (·.1)) h.2.1 fun x hx => (h.2.2 x).mp hx
  rwa [List.length_map] at this
/-- lists of numbers, each at an address that is new -/
structure LL (H0 H : Hp) (D : Addr) (rs : List Addr) (ps : List (List Nat)) : Prop where
  eD : H D = some (.lst (rs.map V.ref))
  len : rs.length = ps.length
  at_ : ∀ (j : Nat) (r : Addr) (p : List Nat), rs[j]? = some r → ps[j]? = some p → H r = some (.lst (nI p))
  new : ∀ r ∈ rs, H0 r = none ∧ r ≠ D
theorem LL.same {H0 H H' : Hp} {D : Addr} {rs : List Addr} {ps : List (List Nat)} (h : LL H0 H D rs ps) (s : Same H H') : LL H0 H' D rs ps :=
  ⟨s _ _ h.eD, h.len, fun j r p a b => s _ _ (h.at_ j r p a b), h.new⟩
theorem LL.there {H0 H : Hp} {D : Addr} {rs : List Addr} {ps : List (List Nat)} (h : LL H0 H D rs ps) {r : Addr} (m : r ∈ rs) : ∃ o, H r = some o := by
  obtain ⟨j, hj⟩ := List.getElem?_of_mem m
  have lj := (List.getElem?_eq_some_iff.mp hj).1
  rw [h.len] at lj
  exact ⟨_, h.at_ j r _ hj (List.getElem?_eq_getElem lj)⟩
theorem LL.but {H0 H : Hp} {D q : Addr} {o : HO} {rs : List Addr} {ps : List (List Nat)} (h : LL H0 H D rs ps) (qD : q ≠ D) (qr : q ∉ rs) : LL H0 (upd H q o) D rs ps := by
  refine ⟨?_, h.len, fun j r p a b => ?_, h.new⟩
  · rw [upd_ne (Ne.symm qD)]
    exact h.eD
  · rw [upd_ne fun e : r = q => qr (e ▸ List.mem_of_getElem? a)]
    exact h.at_ j r p a b
theorem LL.more {H0 H : Hp} {D q : Addr} {k : List Nat} {rs : List Addr} {ps : List (List Nat)} (h : LL H0 H D rs ps) (qD : q ≠ D) (e : H q = some (.lst (nI k))) (nq : H0 q = none) : LL H0 (upd H D (.lst (rs.map V.ref ++ [.ref q]))) D (rs ++ [q]) (ps ++ [k]) := by
  refine ⟨?_, by rw [List.length_append, List.length_append, h.len]; rfl, fun j r p a b => ?_, fun r m => ?_⟩
  · rw [upd_same, List.map_append]
    rfl
  · by_cases lt : j < rs.length
    · rw [List.getElem?_append_left lt] at a
      rw [List.getElem?_append_left (by rw [← h.len]; exact lt)] at b
      rw [upd_ne (h.new r (List.mem_of_getElem? a)).2]
      exact h.at_ j r p a b
    · rw [List.getElem?_append_right (by omega)] at a
      rw [List.getElem?_append_right (by rw [← h.len]; omega), ← h.len] at b
      have j0 : j - rs.length = 0 := by
        have := (List.getElem?_eq_some_iff.mp a).1
        simp at this
        exact this
      rw [j0] at a b
      cases a
      cases b
      rw [upd_ne qD]
      exact e
  · rcases List.mem_append.mp m with m | m
    · exact h.new r m
    · rw [List.mem_singleton.mp m]
      exact ⟨nq, qD⟩
theorem dp_nI {K : PySem.W.Frag} {H : Hp} : ∀ p : List Nat, DpAll K H (nI p) (p.map fun k : Nat => PyData.int (k : Int))
  | [] => .nil
  | _ :: p => .cons (.int _) (dp_nI p)
/-- what is told of pieces -/
def partD (p : List Nat) : PyData := .list (p.map fun k : Nat => PyData.int (k : Int))
theorem LL.dps {K : PySem.W.Frag} {H0 H : Hp} : ∀ {rs : List Addr} {ps : List (List Nat)}, rs.length = ps.length → (∀ (j : Nat) (r : Addr) (p : List Nat), rs[j]? = some r → ps[j]? = some p → H r = some (.lst (nI p))) → DpAll K H (rs.map V.ref) (ps.map partD)
  | [], [], _, _ => .nil
  | [], _ :: _, h, _ => absurd h (by simp)
  | _ :: _, [], h, _ => absurd h (by simp)
  | r :: rs, p :: ps, h, a => .cons (.lst (SqL.of (a 0 r p rfl rfl)) (dp_nI p)) (LL.dps (H0 := H0) (by simpa using h) fun j r' p' x y => a (j + 1) r' p' x y)
theorem LL.dp {K : PySem.W.Frag} {H0 H : Hp} {D : Addr} {rs : List Addr} {ps : List (List Nat)} (h : LL H0 H D rs ps) : Dp K H (.ref D) (.list (ps.map partD)) := .lst (SqL.of h.eD) (LL.dps (H0 := H0) h.len h.at_)
theorem lp_tup {K : PySem.W.Frag} {H : Hp} {v : V} {l : Lp} (h : Dp K H v (lpD l)) : ∃ a b, v = .ref a ∧ SqT K H a [.str l.1, .ref b] ∧ SqT K H b (l.2.map V.int) := by
  cases h with
  | tup s d =>
    cases d with
    | cons d1 d =>
      cases d1
      cases d with
      | cons d2 dn =>
        cases dn
        cases d2 with
        | tup s2 d2 => exact ⟨_, _, rfl, s, by rw [← ints_back d2]; exact s2⟩
/-- a comprehension over loops -/
theorem lcf_loops {K : PySem.W.Frag} {a : Addr} {xs : List V} {ls : List Lp} {g : TG} {tt : TT} {te : TE} {vs : List Nat} {σ : L2.St} {H : Hp} {D : Addr} {Qd : Hp → Prop} (f : Lp → Bool) (e : Lp → V) (ha : SqL K H a xs) (dl : DpAll K H xs (ls.map lpD)) (nD : H D = none) (ln : ls.length ≤ 1000000)
    (hs : ∀ (i : Nat) (l : Lp) (t b : Addr) (H1 : Hp) (yes : V → Hp → Prop) (no : Hp → Prop), ls[i]? = some l → SqT K H1 t [.str l.1, .ref b] → SqT K H1 b (l.2.map V.int) → Same H H1 → (f l = true → ∀ H2, Same H1 H2 → yes (e l) H2) → (f l = false → ∀ H2, Same H1 H2 → no H2) → g (.ref t) (wipe σ vs) H1 fun σ2 H2 => wipe σ2 vs = wipe σ vs ∧ tt σ2 H2 fun b H3 => if b = true then te σ2 H3 yes else no H3)
    (hd : ∀ H', Same H H' → H' D = some (.lst ((ls.filter f).map e)) → Qd H') :
    ∃ W : Nat → Nat → Hp → Prop, (∃ m, W 0 m (upd H D (.lst []))) ∧ ∀ i m H, W i m H →
      ((Itl K a).stop i H ∧ Qd H) ∨ ((Itl K a).go i H ∧ ∃ Nx : Hp → Prop, (∀ H', Nx H' → ∃ m', m' < m ∧ W (i + 1) m' H') ∧ ∀ x H', (Itl K a).yld i H x H' → g x (wipe σ vs) H' fun σ2 H2 => wipe σ2 vs = wipe σ vs ∧ tt σ2 H2 fun b H3 =>
        if b = true then te σ2 H3 fun y H4 => ∃ acc, H4 D = some (.lst acc) ∧ acc.length < sizeLine ∧ Nx (upd H4 D (.lst (acc ++ [y]))) else Nx H3) := by
  have xl : xs.length = ls.length := by rw [dps_len dl, List.length_map]
  have zf : (xs.zip ls).map Prod.fst = xs := List.map_fst_zip (by omega)
  have zs : (xs.zip ls).map Prod.snd = ls := List.map_snd_zip (by omega)
  refine lcf_list (ns := xs.zip ls) (c := Prod.fst) (fun p => f p.2) (fun p => e p.2) (by rw [zf]; exact ha) nD (by rw [List.length_zip]; omega) (fun i p H1 yes no hp s y n => ?_) (fun H' s eD => hd H' s ?_)
  · obtain ⟨v, l⟩ := p
    have hv : xs[i]? = some v := by rw [← zf, List.getElem?_map, hp]; rfl
    have hl : ls[i]? = some l := by rw [← zs, List.getElem?_map, hp]; rfl
    obtain ⟨v', d, hv', hd', dv⟩ := dps_at dl (i := i) (by rw [List.length_map]; exact (List.getElem?_eq_some_iff.mp hl).1)
    rw [hv] at hv'
    cases hv'
    rw [List.getElem?_map, hl] at hd'
    cases hd'
    obtain ⟨t, b, rfl, st, sb⟩ := lp_tup (dp_same s dv)
    exact hs i l t b H1 yes no hl st sb s y n
  · rw [eD]
    congr 2
    have : ∀ (zs : List (V × Lp)), (zs.filter fun p => f p.2).map (fun p => e p.2) = ((zs.map Prod.snd).filter f).map e := fun q => by
      induction q with
      | nil => rfl
      | cons z q ih =>
        rw [List.map_cons, List.filter_cons, List.filter_cons]
        split
        · rw [List.map_cons, List.map_cons, ih]
        · exact ih
    rw [this, zs]
/-- the loop at a place -/
theorem lp_at {K : PySem.W.Frag} {H : Hp} {xs : List V} {ls : List Lp} {i : Nat} (dl : DpAll K H xs (ls.map lpD)) (hi : i < ls.length) : ∃ (l : Lp) (t b : Addr), ls[i]? = some l ∧ xs[i]? = some (.ref t) ∧ SqT K H t [.str l.1, .ref b] ∧ SqT K H b (l.2.map V.int) := by
  obtain ⟨v, d, hv, hd, dv⟩ := dps_at dl (i := i) (by rw [List.length_map]; exact hi)
  rw [List.getElem?_map, List.getElem?_eq_getElem hi] at hd
  cases hd
  obtain ⟨t, b, rfl, st, sb⟩ := lp_tup dv
  exact ⟨_, t, b, List.getElem?_eq_getElem hi, hv, st, sb⟩
end X6
/-! set(xs) of a list of texts, as a set that can be sorted. -/
namespace MYc
open PySem PySem.Spec PyProof.Rows L2 MXm MXn
section
variable {prog : Program} {w : World} {A : Around} {R : Result → Shared → Prop} {I : Addr} {fp wr : List Addr} {G : Array GenState → Array GenState → Prop} {n : Nat} {P : Nat → Value → Prop} {St : Nat → Shared → Prop}
theorem upT (W : WalksS prog w A.in1 I fp wr G n P St) (S : Addr) (off : S ∉ fp) (xs : List Str) (size : xs.length = n) (few : n + 1 < scanBound) (val : ∀ i v, P i v → ∃ t, v = .str (xs.getD i Str.empty) t) :
    ∀ (k i m : Nat) (F : Str → Bool) (s : Shared), n - i = k → i ≤ n → m ≤ i → St i s → SetT w s.heap S F m → (∀ y, F y = true ↔ y ∈ xs.take i) →
      (∀ s' F' m', Moved (S :: wr) G s s' → m' ≤ n → SetT w s'.heap S F' m' → (∀ y, F' y = true ↔ y ∈ xs) → R (.ok (.ret .none)) s') →
      codeAny (model prog w) A (.builtin "set.update.loop" ⟨[.ref S, .ref I], []⟩) R s := by
  have offw : S ∉ wr := fun z => off (W.sub _ z)
  have wide : ∀ b ∈ wr, b ∈ S :: wr := fun b z => List.mem_cons_of_mem _ z
  intro k
  induction k with
  | zero =>
    intro i m F s ek le mi st hS hF fin
    obtain rfl : i = n := by omega
    refine codeAny_builtin PyProof.Rows.F.entry_set_update_loop (by
      rw [Around.under_plainId PyProof.Rows.F.plain_set_update_loop _]; show wpAny _ A.in1 (pyNext (.ref I) >>= _) _ _ s
      refine wpAny_bind (W.done s _ _ st fun s' mv => ?_); show wpAny _ A.in1 (ret Value.none) _ _ s'
      refine wpAny_pure (fin s' F m (mv.mono wide) mi (hS.at fun o e => mv.heap S o offw e) fun y => ?_)
      rw [hF y, List.take_of_length_le (Nat.le_of_eq size)])
  | succ k ih =>
    intro i m F s ek le mi st hS hF fin
    have lt : i < n := by omega
    refine codeAny_builtin PyProof.Rows.F.entry_set_update_loop (by
      rw [Around.under_plainId PyProof.Rows.F.plain_set_update_loop _]; show wpAny _ A.in1 (pyNext (.ref I) >>= _) _ _ s
      refine wpAny_bind (W.item i s _ _ lt st fun v s' hP st' mv => ?_)
      obtain ⟨t, rfl⟩ := val i v hP
      have hS' : SetT w s'.heap S F m := hS.at fun o e => mv.heap S o offw e
      show wpAny _ A.in1 (holding [Value.str (xs.getD i Str.empty) t] (setAdd S (.str (xs.getD i Str.empty) t)) >>= _) _ _ s'
      refine wpAny_bind (wpAny_holding ?_); unfold setAdd
      refine wpAny_holding (wpAny_bind ((PySem.strKind prog w).pyHash (k := xs.getD i Str.empty) (PySem.strKind_is _ _ _ _) ?_))
      refine addT (s := { s' with toks := s'.toks + 1 }) hS' (by omega) fun h' sb new => ?_
      refine wpAny_pure ⟨plainId_quiet PyProof.Rows.F.plain_set_update_loop _, ih (i + 1) _ _ _ (by omega) lt (by split <;> omega) (W.frame _ s' _ _ st' (Nat.le_succ _) fun b hb o e => ?_) new (fun y => ?_) fun s'' F' m' mv2 le2 r2 q2 => ?_⟩
      · rw [sb.2 b fun z : b = S => off (z ▸ hb)]; exact e
      · have il : i < xs.length := by omega
        rw [List.take_add_one, List.getElem?_eq_getElem il, Option.toList_some, List.mem_append, List.mem_singleton, Bool.or_eq_true, hF y, decide_eq_true_eq, List.getD_eq_getElem?_getD, List.getElem?_eq_getElem il]; rfl
      · refine fin s'' F' m' (Moved.trans W.gtrans ((mv.mono wide).then_heap (Nat.le_succ _) fun b o hb e => ?_) mv2) le2 r2 q2
        rw [sb.2 b fun z : b = S => hb (z ▸ List.mem_cons_self)]; exact e)
end
/-- rest: what stood before, stands -/
def Rest (s : Shared) (h' : Heap) : Prop := ∀ b o, b < s.heap.objs.size → s.heap.get? b = some o → h'.get? b = some o
section
variable {prog : Program} {w : World} {A : Around} {E : Value → Shared → Prop} {s : Shared}
theorem made_set (a : Value) {Z : Value → Shared → Prop} (k : Z (.ref s.heap.objs.size) { s with heap := s.heap.push { cls := .type "set", dict := none, data := .set #[] 0 (.fresh 0 0 (!w.params.followText "set-order")) } }) :
    codeAny (model prog w) A (.call (.builtin "set.__new__") ⟨[.type "set", a], []⟩) (wants Z E) s := by
  refine codeAny_of_tree (by
    show wpAny _ A.in1 (do checkBuiltinCall "set.__new__" ⟨[.type "set", a], []⟩; again (.builtin "set.__new__" ⟨[.type "set", a], []⟩)) _ _ s
    refine wpAny_bind (wpAny_of_eq (PySem.F.newCall_set_1 a) (wpAny_pure ⟨plainId_quiet PySem.F.plain_set_new _, codeAny_builtin PySem.F.entry_set_new ?_⟩))
    rw [Around.under_plainId PySem.F.plain_set_new _]; unfold Builtin.«set.__new__» Builtin.Frozenset.newClass
    have sub := sub_set_self
    obtain ⟨hp, g, d, tk, os⟩ := s
    dsimp only
    wp_walk
    refine wpAny_askSetting (wpAny_pure (by dsimp only; simp only [newObj]; exact wpAny_bind (wpAny_alloc (wpAny_pure (wpAny_pure k))))))
theorem call_set_many {l : Addr} {items : Array Value} {xs : List Str} {Q : Value → Shared → Prop} (hh : A.handled = none) (hl : s.heap.IsList l items) (hi : StrsAre items.toList xs) (few : xs.length + 1 < scanBound)
    (k : ∀ (h' : Heap) (tk m : Nat) (F : Str → Bool), m ≤ xs.length → SetT w h' s.heap.objs.size F m → (∀ y, F y = true ↔ y ∈ xs) → Rest s h' → Q (.ref s.heap.objs.size) { s with heap := h', toks := tk }) :
    wpAny (model prog w) A (call (.type "set") [.ref l]) Q E s := by
  obtain ⟨c, tl, mroE⟩ := PySem.F.called_set.mro
  have madeE := PySem.F.called_set.made
  have subE := PySem.F.called_set.sub
  refine wpAny_call (codeAny_of_tree (by
    show wpAny _ _ (callAny (.type "set") _) _ _ _
    refine wpAny_pure ⟨Code.quiet_builtin _ (by decide +kernel), codeAny_builtin PySem.F.entry_type_call ?_⟩
    rw [Around.under_plain (weight_type_call_type "set" [.ref l] []) rfl]
    have notE := PySem.F.called_set.notType
    have canE := PySem.F.called_set.canCreate
    have tcE := PySem.F.typeCall_set_1 (.ref l)
    repeat' first | assumption | wp_step
    refine codeAny_mono (made_set (.ref l) (E := E) (Z := fun obj s1 => obj = .ref s.heap.objs.size ∧ s1 = { s with heap := s.heap.push { cls := .type "set", dict := none, data := .set #[] 0 (.fresh 0 0 (!w.params.followText "set-order")) } }) ⟨rfl, rfl⟩) fun r s1 hr => ?_
    rcases r with e | fl
    · exact hr
    rcases fl with _ | _ | _ | obj
    all_goals first | exact hr.elim | skip
    obtain ⟨rfl, rfl⟩ := hr
    have hS : (s.heap.push { cls := .type "set", dict := none, data := .set #[] 0 (.fresh 0 0 (!w.params.followText "set-order")) }).get? s.heap.objs.size = some { cls := .type "set", dict := none, data := .set #[] 0 (.fresh 0 0 (!w.params.followText "set-order")) } := Heap.get?_push_size _ rfl
    have tyE : Shared.TypeIs { s with heap := s.heap.push { cls := .type "set", dict := none, data := .set #[] 0 (.fresh 0 0 (!w.params.followText "set-order")) } } (.ref s.heap.objs.size) "set" := ⟨_, hS, rfl⟩
    have liE := PySem.F.called_set.init.lookup
    have biE := PySem.F.called_set.init.bind (.ref s.heap.objs.size)
    repeat' first | assumption | wp_step
    refine codeAny_mono (codeAny_call_builtin (R := wants (fun r s₂ => r = .none ∧ ∃ h' tk F m, s₂ = { s with heap := h', toks := tk } ∧ m ≤ xs.length ∧ SetT w h' s.heap.objs.size F m ∧ (∀ y, F y = true ↔ y ∈ xs) ∧ Rest s h') E) PySem.F.called_set.init.plain PySem.F.entry_set_init (check_set_init_1 tyE ?_)) fun r2 s2 hr2 => ?_
    · obtain ⟨⟨ocls, odict, odata, oslots⟩, at_, cl, nl, dl⟩ := hl
      simp only at cl dl
      subst cl dl
      have at2 : (s.heap.push { cls := .type "set", dict := none, data := .set #[] 0 (.fresh 0 0 (!w.params.followText "set-order")) }).get? l = some { cls := .type "list", dict := odict, data := .seq items nl, slots := oslots } := Heap.get?_push_of_some _ at_
      have e1 := PySem.F.sub_list_set
      have e2 := PySem.F.sub_list_frozenset
      have e3 : (Value.type "list" == Value.type "dict") = false := by decide
      have isl : (s.heap.push { cls := .type "set", dict := none, data := .set #[] 0 (.fresh 0 0 (!w.params.followText "set-order")) }).IsList l items := ⟨_, at2, rfl, nl, rfl⟩
      unfold Builtin.«set.__init__» noKeywords Builtin.Frozenset.updateFrom
      generalize eI : pyIter = PI
      wp_walk
      subst eI
      refine wpAny_pyIter_list isl (wpAny_bind (wpAny_runValue ?_))
      have lS : l < s.heap.objs.size := Heap.lt_size at_
      have noH : A.in1.in1.in1.handled = none := by simp [hh]
      have big : (s.heap.push { cls := .type "set", dict := none, data := .set #[] 0 (.fresh 0 0 (!w.params.followText "set-order")) }).objs.size = s.heap.objs.size + 1 := Heap.size_push _ _
      have ne1 : l ≠ (s.heap.push { cls := .type "set", dict := none, data := .set #[] 0 (.fresh 0 0 (!w.params.followText "set-order")) }).objs.size := Nat.ne_of_lt (by rw [big]; exact Nat.lt_succ_of_lt lS)
      have offS : s.heap.objs.size ∉ [(s.heap.push { cls := .type "set", dict := none, data := .set #[] 0 (.fresh 0 0 (!w.params.followText "set-order")) }).objs.size, l] := by
        simp only [List.mem_cons, List.not_mem_nil, or_false, not_or]
        exact ⟨Nat.ne_of_lt (by rw [big]; exact Nat.lt_succ_self _), Nat.ne_of_gt lS⟩
      have sz : xs.length = items.size := by rw [← StrsAre.len_eq hi, Array.length_toList]
      refine upT ((Walks.list noH _ l ne1 items).toS) s.heap.objs.size offS xs sz (by omega) (fun i v hv => SS.strs_at hi i v (by rw [Array.getElem?_toList]; exact hv)) (items.size - 0) 0 0 (fun _ => false) _ (by omega) (Nat.zero_le _) (Nat.le_refl _) ⟨⟨_, Heap.get?_push_size _ rfl, rfl, rfl⟩, isl.push _⟩ ((fresh w).at fun o e => Heap.get?_push_of_some _ e) (fun y => by simp) fun s' F' m' mv le new mem => ?_
      obtain ⟨h', g', d', tk', os'⟩ := s'
      obtain rfl : g' = s.gens := mv.gens
      obtain rfl : d' = s.drawn := mv.drawn
      obtain rfl : os' = s.os := mv.os
      show wpAny _ _ _ _ _ _
      refine wpAny_pure (by
        show wpAny _ _ (ret Value.none) _ _ _
        refine wpAny_pure ⟨rfl, h', tk', F', m', rfl, by omega, new, mem, fun b o hb e => ?_⟩
        refine mv.heap b o ?_ (Heap.get?_push_of_some _ (Heap.get?_push_of_some _ e))
        simp only [List.mem_cons, List.not_mem_nil, or_false, not_or]
        exact ⟨Nat.ne_of_lt hb, Nat.ne_of_lt (by rw [big]; exact Nat.lt_succ_of_lt hb)⟩)
    · rcases r2 with e | fl2
      · exact hr2
      rcases fl2 with _ | _ | _ | r
      all_goals first | exact hr2.elim | skip
      obtain ⟨rfl, h', tk, F, m, rfl, le, new, mem, rest⟩ := hr2
      repeat' first | assumption | wp_step
      exact k _ _ m F le new mem rest))
end
section
variable {X : Cx}
/-- the same as a built-in's rule -/
def rSetOfS (K : PySem.W.Frag) (w : World) : List V → Hp → VK → Prop := fun vs H Q => ∃ (l : Addr) (xs : List Str), vs = [V.ref l] ∧ SqL K H l (xs.map V.str) ∧ xs.length ≤ 4000 ∧
  ∀ (p : Addr) (m : Nat) (F : Str → Bool), H p = none → m ≤ xs.length → (∀ y, F y = true ↔ y ∈ xs) → Q (.ref p) (upd H p (SetTO w p F m))
theorem strs_vals : ∀ {vs : List Value} {xs : List Str}, Vals (xs.map V.str) vs → StrsAre vs xs
  | _, [], .nil => .nil
  | _, x :: xs, .cons h r => by
    obtain ⟨t, rfl⟩ := (show ∃ t, _ = Value.str x t from h)
    exact .cons x t (strs_vals r)
theorem cr_setOfS {K : PySem.W.Frag} {w : World} (hc : X.calm = true) (e : X.K = K := by rfl) (e2 : X.w = w := by rfl) : CallR X (.type "set") (rSetOfS K w) := by
  subst e e2
  intro pins s σ H vs us Q I r h
  obtain ⟨l, xs, rfl, hq, hl, q⟩ := h
  rw [Vals.ref1 r]
  obtain ⟨its, rv, pl, hz⟩ := I.list hq
  have sb : 4001 < scanBound := by decide
  refine call_set_many (I.ok.hd hc) pl.isList (by simpa using strs_vals rv) (by omega) fun h' tk m F le new mem keep => ?_
  exact ⟨.ref s.heap.objs.size, upd H s.heap.objs.size (SetTO X.w s.heap.objs.size F m), I.laid (t' := tk) (fun b o e => keep b o (Heap.lt_size e) e) (Nat.le_refl _) (obj_of new), rfl, q _ _ _ (I.hok.fresh (Nat.le_refl _)) le mem⟩
end
end MYc
/-! pieces. -/
namespace X6
open PySem PySem.Spec PyProof.Rows L2 LK MXo MXi MXp MXr MXg MXt MY
def spPcs (K : PySem.W.Frag) (CC : Addr) : Sp := fun vs H Q _ => ∃ (x ca : Addr) (ls : List Lp) (ms cs : List Int), vs = [.ref x, .ref ca] ∧ IsC K CC H x ls ms ∧ ls.length ≤ 1000 ∧ SqL K H ca (cs.map V.int) ∧ OkFs ls.length cs ∧ cs.length ≤ 1000 ∧
  ∀ (p : Addr) (rs : List Addr) (H' : Hp), H p = none → Same H H' → LL H H' p rs (partsD ls cs) → Q (.ref p) H'
theorem nI_ne {p : List Nat} (h : p ≠ []) : (!(nI p).isEmpty) = true := by
  cases p with
  | nil => exact absurd rfl h
  | cons a r => rfl
section
variable {P : Program} {w : World} {K : PySem.W.Frag} {mg : Str → Option Value} {base : Heap} {CC : Addr}
end
end X6
/-! _law_parts_of. -/
namespace X6
open PySem PySem.Spec PyProof.Rows L2 LK MXo MXi MXp MXr MXg MXt MY
def spPts (K : PySem.W.Frag) : Sp := fun vs H Q _ => ∃ (la ca : Addr) (xs : List V) (ls : List Lp) (cs : List Int), vs = [.ref la, .ref ca] ∧ SqL K H la xs ∧ DpAll K H xs (ls.map lpD) ∧ SqL K H ca (cs.map V.int) ∧ ls.length ≤ 1000 ∧
  ∀ (p : Addr) (rs : List Addr) (H' : Hp), H p = none → Same H H' → LL H H' p rs (partsD ls cs) → Q (.ref p) H'
theorem sh_part (p : List Nat) : SeqAt.shaped (partD p) = true := by
  have h := sh_ints (p.map fun k : Nat => (k : Int))
  rw [List.map_map] at h
  exact h
theorem ne_emp {p : List Nat} (h : p ≠ []) : (!p.isEmpty) = true := by
  cases p with
  | nil => exact absurd rfl h
  | cons a r => rfl
/-- xs != [] -/
theorem ne_nil {K : PySem.W.Frag} {σ : L2.St} {i : Nat} {H : Hp} {pc : Addr} {p : List Nat} {Q : Bool → Hp → Prop} (hv : σ[i]? = some (some (.ref pc))) (e : H pc = some (.lst (nI p))) (k : ∀ e, H e = none → Q (!p.isEmpty) (upd H e (.lst []))) : tTest (tOp (rNeD K) (tVar i) (tLst tNil)) σ H Q := by
  refine ⟨_, hv, by show 0 ≤ sizeLine; decide, fun q nq => ?_⟩
  refine ⟨partD p, .list [], .lst (SqL.of (same_new nq _ _ e)) (dp_nI p), .lst (SqL.of upd_same) .nil, sh_part p, sh_ints [], _, rfl, ?_⟩
  have h : PyData.eqv (partD p) (.list []) = p.isEmpty := by
    cases p with
    | nil => rfl
    | cons a r => rfl
  rw [h]
  exact k q nq
section
variable {P : Program} {w : World} {K : PySem.W.Frag} {mg : Str → Option Value} {base : Heap}
end
end X6
/-! _law_loose. -/
namespace X6
open PySem PySem.Spec PyProof.Rows L2 LK MXo MXi MXp MXr MXg MXt MY
abbrev sLoo2 : Stmt := top 37
theorem scLoo2 : FnScope ["creel", "up_to", "yarns", "stock", "job", "state", "one"] ["creel", "up_to"] (defScope sLoo2) := ⟨rfl, rfl, rfl, by decide +kernel, rfl, by decide +kernel, by decide +kernel⟩
def spLoose (K : PySem.W.Frag) : Sp := fun vs H Q _ => ∃ (c : Addr) (most B : Nat), vs = [.ref c, .int most] ∧ most ≤ 100 ∧ CR H c B ∧ B + 200000 < 10 ^ 12 ∧
  ∀ (t L G : Addr) (H' : Hp) (ys : List Str) (ls : List Lp) (xs : List V) (fs : List Int), Scn K H H' t L G (max 4 most) ys ls xs fs → CR H' c (B + 200000) → Bt c H H' → Q (.ref t) H'
section
variable {P : Program} {w : World} {K : PySem.W.Frag} {mg : Str → Option Value} {base : Heap}
theorem ok_Loo2 {f : Addr} {fd : FuncData} (F : Fun K "_law_loose" "_law_loose" sLoo2 f fd) (B : Bl mg)
    {f__law_ply : Addr} {d__law_ply : FuncData} (G__law_ply : FnOk P w K mg base CX0 1 f__law_ply d__law_ply ["creel", "span"] spPly) (g__law_ply : mg "_law_ply" = some (.ref f__law_ply)) (k__law_ply : PySem.W.keepIn K (.ref f__law_ply) = true) (b__law_ply : Binds K d__law_ply ["creel", "span"] [])
    {f__law_yarns : Addr} {d__law_yarns : FuncData} (G__law_yarns : FnOk P w K mg base CX0 2 f__law_yarns d__law_yarns ["creel", "many"] spYarns) (g__law_yarns : mg "_law_yarns" = some (.ref f__law_yarns)) (k__law_yarns : PySem.W.keepIn K (.ref f__law_yarns) = true) (b__law_yarns : Binds K d__law_yarns ["creel", "many"] [])
    {f__law_any_cloth : Addr} {d__law_any_cloth : FuncData} (G__law_any_cloth : FnOk P w K mg base CX0 2 f__law_any_cloth d__law_any_cloth ["creel", "most", "yarns"] (spAny K)) (g__law_any_cloth : mg "_law_any_cloth" = some (.ref f__law_any_cloth)) (k__law_any_cloth : PySem.W.keepIn K (.ref f__law_any_cloth) = true) (b__law_any_cloth : Binds K d__law_any_cloth ["creel", "most", "yarns"] [])
    {f__law_work_done : Addr} {d__law_work_done : FuncData} (G__law_work_done : FnOk P w K mg base CX0 2 f__law_work_done d__law_work_done ["yarn", "size", "courses"] (spWork K)) (g__law_work_done : mg "_law_work_done" = some (.ref f__law_work_done)) (k__law_work_done : PySem.W.keepIn K (.ref f__law_work_done) = true) (b__law_work_done : Binds K d__law_work_done ["yarn", "size", "courses"] [])
    {f__law_drawn_work : Addr} {d__law_drawn_work : FuncData} (G__law_drawn_work : FnOk P w K mg base CX0 3 f__law_drawn_work d__law_drawn_work ["creel", "yarns", "most", "rows_most", "most_loops"] (spDWork K)) (g__law_drawn_work : mg "_law_drawn_work" = some (.ref f__law_drawn_work)) (k__law_drawn_work : PySem.W.keepIn K (.ref f__law_drawn_work) = true) (b__law_drawn_work : Binds K d__law_drawn_work ["creel", "yarns", "most", "rows_most", "most_loops"] []) : FnOk P w K mg base CX0 4 f fd ["creel", "up_to"] (spLoose K) := by
  refine F.ok scLoo2 (fun vs H Q E h => ?_) (fun cdv A outer s H vs Q E hr h => ?_)
  · obtain ⟨c, most, bb, rfl, _⟩ := h
    rfl
  · obtain ⟨c, most, bb, rfl, m1, hc, hB, k⟩ := h
    refine ⟨_, pss_cons (ps_set (i := 2) scLoo2.nd rfl (Or.inl rfl) (pe_call (E := E0) G__law_yarns (hr.mono (by decide)) rfl g__law_yarns k__law_yarns b__law_yarns .nil pass0 (pa_cons (pv 0) (pa_cons (pe_op op_add pe_int (pe_call (E := E0) G__law_ply (hr.mono (by decide)) rfl g__law_ply k__law_ply b__law_ply .nil pass0 (pa_cons (pv 0) (pa_cons pe_int pa_nil)))) pa_nil))))
      (pss_cons (ps_if (pt_cmpR op_eq (pe_call (E := E0) G__law_ply (hr.mono (by decide)) rfl g__law_ply k__law_ply b__law_ply .nil pass0 (pa_cons (pv 0) (pa_cons pe_int pa_nil))) pe_int (nomark _)) (pss_cons (ps_set (i := 3) scLoo2.nd rfl (Or.inl rfl) (pe_call (E := E0) G__law_any_cloth (hr.mono (by decide)) rfl g__law_any_cloth k__law_any_cloth b__law_any_cloth .nil pass0 (pa_cons (pv 0) (pa_cons (pv 1) (pa_cons (pv 2) pa_nil)))))
      (pss_one (ps_ret (pe_tup (pa_cons (pe_ix (ixt (K := K)) (pv 3) pe_int (fun _ _ => rfl)) (pa_cons (pe_lc (own := [("one", 6)]) (g := gName 6) rfl scLoo2.nd (pi_list (pe_ix (ixt (K := K)) (pv 3) pe_int (fun _ _ => rfl))) (blkOk_by (N := ["creel", "up_to", "yarns", "stock", "job", "state", "one"]) (sc := defScope sLoo2) (by decide +kernel)) (fun _ _ _ _ _ => pg_name (i := 6) scLoo2.nd rfl (Or.inl rfl)) (fun _ _ _ _ _ => pts_one (pt_cmpR op_eq (pe_call (E := E0) G__law_ply (hr.mono (by decide)) rfl g__law_ply k__law_ply b__law_ply .nil pass0 (pa_cons (pv 0) (pa_cons pe_int pa_nil))) pe_int (nomark _))) (fun _ _ _ _ _ => pv 6)) pa_nil)))))) pss_nil)
      (pss_cons (ps_set (i := 4) scLoo2.nd rfl (Or.inl rfl) (pe_call (E := E0) G__law_drawn_work (hr.mono (by decide)) rfl g__law_drawn_work k__law_drawn_work b__law_drawn_work .nil pass0 (pa_cons (pv 0) (pa_cons (pv 2) (pa_cons pe_int (pa_cons pe_int (pa_cons (pv 1) pa_nil)))))))
      (pss_cons (ps_set (i := 5) scLoo2.nd rfl (Or.inl rfl) (pe_call (E := E0) G__law_work_done (hr.mono (by decide)) rfl g__law_work_done k__law_work_done b__law_work_done .nil pass0 (pa_cons (pe_ix (ixt (K := K)) (pv 4) pe_int (fun _ _ => rfl)) (pa_cons (pe_ix (ixt (K := K)) (pv 4) pe_int (fun _ _ => rfl)) (pa_cons (pe_ix (ixt (K := K)) (pv 4) pe_int (fun _ _ => rfl)) pa_nil)))))
      (pss_one (ps_ret (pe_tup (pa_cons (pe_ix (ixt (K := K)) (pv 5) pe_int (fun _ _ => rfl)) (pa_cons (pe_op op_cat (pe_ix (ixt (K := K)) (pv 5) pe_int (fun _ _ => rfl)) (pe_lc (own := [("one", 6)]) (g := gName 6) rfl scLoo2.nd (pi_list (pe_ix (ixt (K := K)) (pv 5) pe_int (fun _ _ => rfl))) (blkOk_by (N := ["creel", "up_to", "yarns", "stock", "job", "state", "one"]) (sc := defScope sLoo2) (by decide +kernel)) (fun _ _ _ _ _ => pg_name (i := 6) scLoo2.nd rfl (Or.inl rfl)) (fun _ _ _ _ _ => pts_one (pt_cmpR op_eq (pe_call (E := E0) G__law_ply (hr.mono (by decide)) rfl g__law_ply k__law_ply b__law_ply .nil pass0 (pa_cons (pv 0) (pa_cons pe_int pa_nil))) pe_int (nomark _))) (fun _ _ _ _ _ => pv 6))) pa_nil)))))))), ?_⟩
    have ty2 : sizeLine = 16777216 := sizeLine_eq
    refine ⟨_, rfl, _, rfl, c, 5, _, rfl, by decide, by decide, hc, by omega, fun d H0 d0 d1 h0 b0 n0 => ⟨_, _, rfl, rfl, ?_⟩⟩
    obtain ⟨n, rfl⟩ := Int.eq_ofNat_of_zero_le d0
    dsimp only
    rw [show (1 : Int) + (n : Int) = ((1 + n : Nat) : Int) by omega]
    refine ⟨c, 1 + n, _, rfl, by omega, h0, by omega, fun ya H1 ys nya h1 b1' eys yl yn => ?_⟩
    have b1 := b0.trans b1'
    have cya : ya ≠ c := fun e => by
      subst e
      obtain ⟨_, _, _, e, _⟩ := h0
      rw [nya] at e
      cases e
    have eys0 : Ys H1 ya ys := eys
    refine ⟨_, rfl, c, 3, _, rfl, by decide, by decide, h1, by omega, fun d2 H2 d20 d21 h2 b2 n2 => ?_⟩
    have eys2 : Ys H2 ya ys := b2 _ _ cya eys
    have yne : ys ≠ [] := fun e => by rw [e] at yl; simp at yl; omega
    have b12 := b1.trans b2
    refine ⟨rfl, _, rfl, ?_⟩
    by_cases dd : d2 = 0
    · refine LK.ifT (by simp [dd]) ?_
      refine ⟨_, rfl, _, rfl, _, rfl, c, ya, most, _, ys, rfl, by omega, h2, by omega, eys2, yne, by omega, fun t L G H3 ls xs fs nL nG LG et eL dL eG h3 b3 ln ok fsok => ?_⟩
      refine ⟨_, rfl, t, _, 0, _, rfl, rfl, SqT.of et, atI_nat (j := 0) rfl, _, rfl, t, _, 1, _, rfl, rfl, SqT.of et, atI_nat (j := 1) rfl, G, rfl, ⟨_, SqL.of eG⟩, fun J nJ => ?_⟩
      have cJ : J ≠ c := cr_ne h3 nJ
      have Gc : G ≠ c := fun e => by
        rw [e] at nG
        exact absurd nG (by obtain ⟨_, _, _, e, _⟩ := h2; rw [e]; exact fun z => by cases z)
      refine lc_list (K := K) (a := G) (xs := fs.map V.int) (fun i H' => Bt c H3 H' ∧ CR H' c ((bb + 1 + 1000 + 1 + 20000) + i) ∧ ∃ zs : List Int, zs.Sublist (fs.take i) ∧ H' J = some (.lst (zs.map V.int)))
        ⟨Bt.of (same_new nJ), h3.upd cJ, [], List.nil_sublist _, upd_same⟩ (fun i H' hi hg => SqL.of (hg.1 _ _ Gc eG)) (fun i y H' hy hg => ⟨rfl, ?_⟩) (fun H4 hg => ?_)
      · obtain ⟨bt, hc', zs, sub, eJ⟩ := hg
        rw [List.getElem?_map] at hy
        obtain ⟨z, hz, rfl⟩ := Option.map_eq_some_iff.mp hy
        have il := (List.getElem?_eq_some_iff.mp hz).1
        have lx : fs.length ≤ 1000 := by have := fsok.len; omega
        have sl := sub.length_le
        rw [List.length_take] at sl
        refine ⟨_, rfl, c, 3, _, rfl, by decide, by decide, hc', by omega, fun d H'' d0 d1 h' b' n' => ?_⟩
        refine ⟨rfl, _, rfl, ?_⟩
        have eJ' := b' _ _ cJ eJ
        rw [List.take_add_one, hz, Option.toList_some]
        by_cases dd : d = 0
        · refine LK.ifT (by simp [dd]) ⟨_, rfl, _, eJ', by rw [List.length_map]; omega, ?_, (h'.upd cJ).mono (by omega), zs ++ [z], sub.append (List.Sublist.refl _), by rw [upd_same, List.map_append]; rfl⟩
          intro b o n e
          rw [upd_ne (ne_none e nJ)]
          exact b' _ _ n (bt _ _ n e)
        · exact LK.ifF (by simp [dd]) ⟨bt.trans b', h'.mono (by omega), zs, sub.trans (List.sublist_append_left _ _), eJ'⟩
      obtain ⟨btJ, hcJ, zs, sub, eJ⟩ := hg
      rw [List.length_map, List.take_length] at sub
      have Lc : L ≠ c := fun e => by
        rw [e] at nL
        exact absurd nL (by obtain ⟨_, _, _, e, _⟩ := h2; rw [e]; exact fun z => by cases z)
      have dl4 := lps_tk (Tk.bt h3 btJ) dL
      have nJ0 : H J = none := gone_bt h2 b12 (gone_bt h3 b3 nJ)
      refine ⟨by show 2 ≤ sizeLine; decide, fun t3 nt3 => ?_⟩
      have s5 := same_new (o := .tup [.ref L, .ref J]) nt3
      have okz : OkFs ls.length zs := ⟨fsok.1.sublist sub, fun x hx => fsok.2 x (sub.subset hx)⟩
      exact k t3 L J _ ys ls xs zs ⟨gone_bt h2 b12 nL, nJ0, ne_none eL nJ, upd_same, s5 _ _ (btJ _ _ Lc eL), dps_same s5 dl4, s5 _ _ eJ, by omega, ok, okz, yn⟩ ((hcJ.same s5).mono (by rw [List.length_map]; have := fsok.len; omega)) ((b12.trans b3).trans (btJ.trans (Bt.of s5)))
    · refine LK.ifF (by simp [dd]) ?_
      refine ⟨_, rfl, _, rfl, _, rfl, c, ya, 4, 5, most, _, ys, rfl, by decide, by decide, by decide, m1, h2, by omega, eys2, yne, by omega, fun t ca H3 y n cs st cxs nca et eca dca h3 b3 hn hcs wk => ?_⟩
      obtain ⟨good, gl⟩ := wk.good
      have gll := good.lens
      have b13 := b12.trans b3
      refine ⟨_, rfl, t, _, 0, _, rfl, rfl, SqT.of et, atI_nat (j := 0) rfl, _, rfl, t, _, 1, _, rfl, rfl, SqT.of et, atI_nat (j := 1) rfl, _, rfl, t, _, 2, _, rfl, rfl, SqT.of et, atI_nat (j := 2) rfl, ?_⟩
      refine ⟨y, n, ca, cxs, cs, rfl, SqL.of eca, dca, by omega, by omega, wk.sq, wk.bd (by omega), fun v H4 s4 yes no => ?_⟩
      obtain ⟨t2, L, T, D, xs, rfl, nL, nT, nD, et2, eL, dL, eT, eD⟩ := yes st wk.ok
      have h4 := h3.same s4
      have b14 := b13.trans (Bt.of s4)
      refine ⟨_, rfl, t2, _, 0, _, rfl, rfl, SqT.of et2, atI_nat (j := 0) rfl, _, rfl, t2, _, 1, _, rfl, rfl, SqT.of et2, atI_nat (j := 1) rfl, _, rfl, t2, _, 2, _, rfl, rfl, SqT.of et2, atI_nat (j := 2) rfl, D, rfl, ⟨_, SqL.of eD⟩, fun J nJ => ?_⟩
      have cJ : J ≠ c := cr_ne h4 nJ
      have fr : ∀ {q : Addr}, H3 q = none → q ≠ c := fun {q} n => cr_ne h3 n
      refine lc_list (K := K) (a := D) (xs := st.2.2.map V.int) (fun i H' => Bt c H4 H' ∧ CR H' c ((bb + 1 + 1000 + 1 + 100000) + i) ∧ ∃ zs : List Int, zs.Sublist (st.2.2.take i) ∧ H' J = some (.lst (zs.map V.int)))
        ⟨Bt.of (same_new nJ), h4.upd cJ, [], List.nil_sublist _, upd_same⟩ (fun i H' hi hg => SqL.of (hg.1 _ _ (fr nD) eD)) (fun i y H' hy hg => ⟨rfl, ?_⟩) (fun H5 hg => ?_)
      · obtain ⟨bt, hc', zs, sub, eJ⟩ := hg
        rw [List.getElem?_map] at hy
        obtain ⟨z, hz, rfl⟩ := Option.map_eq_some_iff.mp hy
        have il := (List.getElem?_eq_some_iff.mp hz).1
        have lx : st.2.2.length ≤ 1000 := by omega
        have sl := sub.length_le
        rw [List.length_take] at sl
        refine ⟨_, rfl, c, 9, _, rfl, by decide, by decide, hc', by omega, fun d H'' d0 d1 h' b' n' => ?_⟩
        refine ⟨rfl, _, rfl, ?_⟩
        have eJ' := b' _ _ cJ eJ
        rw [List.take_add_one, hz, Option.toList_some]
        by_cases dd : d = 0
        · refine LK.ifT (by simp [dd]) ⟨_, rfl, _, eJ', by rw [List.length_map]; omega, ?_, (h'.upd cJ).mono (by omega), zs ++ [z], sub.append (List.Sublist.refl _), by rw [upd_same, List.map_append]; rfl⟩
          intro b o n e
          rw [upd_ne (ne_none e nJ)]
          exact b' _ _ n (bt _ _ n e)
        · exact LK.ifF (by simp [dd]) ⟨bt.trans b', h'.mono (by omega), zs, sub.trans (List.sublist_append_left _ _), eJ'⟩
      obtain ⟨btJ, hcJ, zs, sub, eJ⟩ := hg
      rw [List.length_map, List.take_length] at sub
      have dl4 := lps_tk (Tk.bt h4 btJ) dL
      have nJ0 : H J = none := gone_bt h2 b12 (gone_bt h3 b3 (gone s4 nJ))
      have eT5 := btJ _ _ (fr nT) eT
      have sl := sub.length_le
      refine ⟨T, J, _, _, rfl, rfl, eT5, eJ, ?_, fun p np => ?_⟩
      · rw [List.length_map, List.length_map]
        omega
      have s6 := same_new (o := .lst (st.2.1.map V.int ++ zs.map V.int)) np
      refine ⟨by show 2 ≤ sizeLine; decide, fun t3 nt3 => ?_⟩
      have s7 := s6.trans (same_new (o := .tup [.ref L, .ref p]) nt3)
      have np0 : H p = none := gone_bt h2 b12 (gone_bt h3 b3 (gone s4 (gone_bt hcJ btJ np)))
      have okz : OkFs st.1.length (st.2.1 ++ zs) := ⟨good.nd.sublist (List.Sublist.append (List.Sublist.refl _) sub), fun x hx => good.rg x (by rcases List.mem_append.mp hx with h | h; exact List.mem_append_left _ h; exact List.mem_append_right _ (sub.subset h))⟩
      have ep : upd (upd H5 p (.lst (st.2.1.map V.int ++ zs.map V.int))) t3 (.tup [.ref L, .ref p]) p = some (.lst ((st.2.1 ++ zs).map V.int)) := by
        rw [upd_ne (ne_none upd_same nt3), upd_same, List.map_append]
      have eL5 := btJ _ _ (fr nL) eL
      exact k t3 L p _ ys st.1 xs (st.2.1 ++ zs) ⟨gone_bt h2 b12 (gone_bt h3 b3 nL), np0, ne_none eL5 np, upd_same, s7 _ _ eL5, dps_same s7 dl4, ep, by omega, good.ls, okz, yn⟩ ((hcJ.same s7).mono (by rw [List.length_map]; omega)) (b14.trans (btJ.trans (Bt.of s7)))
end
end X6
/-! a + b of two instances of one class, by its own __add__. -/
namespace MXs
open PySem PySem.Spec PyProof.Rows L2
structure AddOf (K : PySem.W.Frag) (C g : Addr) : Prop where
  own : PySem.W.findIn K (.ref C) "__add__" = some (some (.ref g))
  isF : PySem.W.isFn K (.ref g) = true
  first : PySem.W.selfFirst K C = true
section
variable {X : Cx} {CX : CXT} {k : Nat} {g C : Addr} {fd : FuncData} {ps : List Str} {sp : Sp} {E : XK}
def rAddO (C : Addr) (sp : Sp) (E : XK) : V → V → Hp → VK → Prop := fun x y H Q => ∃ (a b dx dy : Addr) (fs gs : List (Str × V)), x = .ref a ∧ y = .ref b ∧ H a = some (.ins C dx fs) ∧ H b = some (.ins C dy gs) ∧ sp [.ref a, .ref b] H (fun v H' => (∃ r, v = .ref r) ∧ Q v H') E
theorem op_addO (L : AddOf X.K C g) (F : FnOk X.prog X.w X.K X.mg X.base CX k g fd ps sp) (room : Room k X.A) (hb : Binds X.K fd ps []) (hx : Passes CX X E) : OpR X (binaryOp .Add) (rAddO C sp E) := by
  intro pins s σ H x y u v Q I rx ry want
  rcases want with ⟨a, b, dx, dy, fs, gs, rfl, rfl, ha, hb2, want⟩
  obtain rfl : u = Value.ref a := rx
  obtain rfl : v = Value.ref b := ry
  rcases ins_get I.hok ha with ⟨_, O, _⟩
  rcases ins_get I.hok hb2 with ⟨_, O2, _⟩
  rcases O.look with ⟨_, J, _⟩
  rcases O2.look with ⟨_, J2, _⟩
  rcases I.fr with ⟨_, fr⟩
  have many : ([Value.ref a, Value.ref b] ++ []).length = ps.length := F.len _ _ _ _ want
  refine PySem.W.binop_K fr I.ok.mod.kin J J2.type L.first L.own L.isF (wpAny_call ?_)
  refine codeAny_mono (F.run X.A X.stack s H ⟨[.ref a, .ref b], []⟩ [.ref a, .ref b] [.ref a, .ref b] _ E room I.env0 (hb s [.ref a, .ref b] I.kIn many) (.cons rfl (.cons rfl .nil)) want) fun r s' back => ?_
  match r, back with
  | .error er, back => exact hx pins σ H s er s' I back
  | .ok (.ret w), back =>
    obtain ⟨z, G, I3, rz, ⟨q, rfl⟩, want⟩ := I.after back
    obtain rfl : w = Value.ref q := rz
    exact ⟨.ref q, G, I3, rfl, want⟩
  | .ok .next, back => exact back.elim
  | .ok .brk, back => exact back.elim
  | .ok .cont, back => exact back.elim
end
end MXs
/-! Frames: all stays but one thing that is no list and no tuple (a set); lists of ints compared. -/
namespace LK
open PySem PySem.Spec PyProof.Rows L2
theorem eqv_intsA : ∀ xs ys : List Int, PyData.eqvAll (xs.map PyData.int) (ys.map PyData.int) = decide (xs = ys)
  | [], [] => by simp [PyData.eqvAll]
  | [], _ :: _ => by simp [PyData.eqvAll]
  | _ :: _, [] => by simp [PyData.eqvAll]
  | x :: xs, y :: ys => by
    rw [List.map_cons, List.map_cons, PyData.eqvAll, eqv_intsA xs ys, Bool.eq_iff_iff]
    simp [PyData.eqv]
theorem eqv_ints (xs ys : List Int) : PyData.eqv (.list (xs.map PyData.int)) (.list (ys.map PyData.int)) = decide (xs = ys) := by
  rw [PyData.eqv]
  exact eqv_intsA xs ys
/-- an object that is no list, no tuple and nothing locked -/
def Odd (o : HO) : Prop := ∃ φ, o = .ext φ
theorem sqL_bt {K : PySem.W.Frag} {H H' : Hp} {T a : Addr} {o : HO} {xs : List V} (hT : H T = some o) (od : Odd o) (b : Bt T H H') (h : SqL K H a xs) : SqL K H' a xs := by
  obtain ⟨φ, rfl⟩ := od
  rcases h with (h | ⟨o, h⟩) | h
  · exact .inl (.inl (b _ _ (fun e => by rw [e, hT] at h; cases h) h))
  · exact .inl (.inr ⟨o, b _ _ (fun e => by rw [e, hT] at h; cases h) h⟩)
  · exact .inr h
theorem sqT_bt {K : PySem.W.Frag} {H H' : Hp} {T a : Addr} {o : HO} {xs : List V} (hT : H T = some o) (od : Odd o) (b : Bt T H H') (h : SqT K H a xs) : SqT K H' a xs := by
  obtain ⟨φ, rfl⟩ := od
  rcases h with (h | ⟨o, h⟩) | h
  · exact .inl (.inl (b _ _ (fun e => by rw [e, hT] at h; cases h) h))
  · exact .inl (.inr ⟨o, b _ _ (fun e => by rw [e, hT] at h; cases h) h⟩)
  · exact .inr h
mutual
theorem dp_xt {K : PySem.W.Frag} {H H' : Hp} {T : Addr} {o : HO} (hT : H T = some o) (od : Odd o) (e : Bt T H H') : ∀ {v : V} {d : PyData}, Dp K H v d → Dp K H' v d
  | _, _, .non => .non
  | _, _, .bl b => .bl b
  | _, _, .int i => .int i
  | _, _, .str x => .str x
  | _, _, .lst s a => .lst (sqL_bt hT od e s) (dps_xt hT od e a)
  | _, _, .tup s a => .tup (sqT_bt hT od e s) (dps_xt hT od e a)
theorem dps_xt {K : PySem.W.Frag} {H H' : Hp} {T : Addr} {o : HO} (hT : H T = some o) (od : Odd o) (e : Bt T H H') : ∀ {vs : List V} {ds : List PyData}, DpAll K H vs ds → DpAll K H' vs ds
  | _, _, .nil => .nil
  | _, _, .cons a r => .cons (dp_xt hT od e a) (dps_xt hT od e r)
end
/-- in, not in, over SetO, in a block too -/
theorem inS {X : Cx} {w : World} (e : X.w = w := by rfl) : OpR X (compareOp .In) (rSIn w) := e ▸ or_sin
theorem ninS {X : Cx} {w : World} (e : X.w = w := by rfl) : OpR X (compareOp .NotIn) (rSNotIn w) := e ▸ or_snotin
theorem cr_set0w {X : Cx} {w : World} (e : X.w = w := by rfl) : CallR X (.type "set") (rSet0 w) := e ▸ cr_set0
theorem pe_saddw {X : Cx} {w : World} {o e : Expr} {es : List Expr} {to : TE} {t : TA} {apos cpos : Pos} (ho : PE X o to) (ha : PA X (e :: es) t) (ew : X.w = w := by rfl) (hb : attributeBase o "add" X.env (eval o X.env) = eval o X.env := by rfl)
    (hf : ((backTo cpos (starEach (e :: es) X.env)).all (fun x => !x.1) && (backToKw cpos (keywordEach [] X.env)).all (fun x => x.1.isSome) && decide ((e :: es).length + ([] : List Keyword).length + (if ([] : List Keyword).isEmpty then 0 else 1) < 30)) = true := by rfl)
    (hl : (apos.endLine == cpos.line) = true := by rfl) (hs : starEach (e :: es) X.env = (false, eval e X.env) :: starEach es X.env := by rfl) (hp : (backTo cpos (starEach es X.env)).any (·.1) = false := by rfl) : PE X (.Call (.Attribute o "add" apos) (e :: es) [] cpos) (tSAdd w to t) := by
  subst ew
  exact pe_sadd ho ha hb hf hl hs hp
/-- how many numbers below m are in -/
def cntS (S : Int → Bool) (m : Nat) : Nat := ((List.range m).filter fun k : Nat => S (k : Int)).length
theorem cntS_le (S : Int → Bool) (m : Nat) : cntS S m ≤ m := by
  have := List.length_filter_le (fun k : Nat => S (k : Int)) (List.range m)
  rwa [List.length_range] at this
theorem cntS_zero (m : Nat) : cntS (fun _ => false) m = 0 := by
  unfold cntS
  simp
theorem cntS_succ (S : Int → Bool) (m : Nat) : cntS S (m + 1) = cntS S m + if S (m : Int) = true then 1 else 0 := by
  unfold cntS
  rw [List.range_succ, List.filter_append, List.length_append]
  congr 1
  cases h : S (m : Int) <;> simp [h]
theorem cntS_same {S S' : Int → Bool} {m : Nat} (h : ∀ k : Nat, k < m → S (k : Int) = S' (k : Int)) : cntS S m = cntS S' m := by
  unfold cntS
  rw [List.filter_congr fun k hk => h k (List.mem_range.mp hk)]
theorem cntS_add {S : Int → Bool} {p : Nat} (hp : S (p : Int) = false) : ∀ {m : Nat}, p < m → cntS (fun j => S j || decide (j = (p : Int))) m = cntS S m + 1
  | 0, h => absurd h (Nat.not_lt_zero _)
  | m + 1, h => by
    rw [cntS_succ, cntS_succ]
    by_cases c : p = m
    · subst c
      rw [cntS_same (S' := S) fun k hk => by rw [decide_eq_false (by omega), Bool.or_false]]
      simp [hp]
    · rw [cntS_add hp (by omega), decide_eq_false (by omega), Bool.or_false]
      omega
end LK
/-! _law_told_right, law. -/
namespace X6
open PySem PySem.Spec PyProof.Rows L2 LK MXo MXi MXp MXr MXg MXt MXq MY
def rev2 {α : Type} (us zs : List α) : List α := match us, zs with
  | [], [a, b] => [b, a]
  | _, _ => []
theorem cutP_short (cs : List Int) (N : Nat) : ∀ (ks : List Nat) (st : Pst), (∀ p ∈ st.1, p.length ≤ N) → st.2.length + ks.length ≤ N → (∀ p ∈ (ks.foldl (cutP cs) st).1, p.length ≤ N) ∧ (ks.foldl (cutP cs) st).2.length ≤ N
  | [], st, h, l => ⟨h, by simpa using l⟩
  | k :: ks, st, h, l => by
    rw [List.foldl_cons]
    rw [List.length_cons] at l
    unfold cutP
    split
    · split
      · exact cutP_short cs N ks st h (by omega)
      · refine cutP_short cs N ks _ (fun p m => ?_) (by simp; omega)
        rcases List.mem_append.mp m with m | m
        · exact h p m
        · rw [List.mem_singleton.mp m]
          omega
    · exact cutP_short cs N ks _ h (by simp; omega)
theorem parts_short (ls : List Lp) (cs : List Int) : ∀ (ys : List Str) (f : List (List Nat)), (∀ p ∈ f, p.length ≤ ls.length) → ∀ p ∈ ys.foldl (threadP ls cs) f, p.length ≤ ls.length
  | [], f, h => h
  | y :: ys, f, h => by
    rw [List.foldl_cons]
    refine parts_short ls cs ys _ fun p m => ?_
    obtain ⟨a, b⟩ := cutP_short cs ls.length (alongD ls y) (f, []) h (by have := along_len ls y; simpa using this)
    unfold threadP endP at m
    split at m
    · exact a p m
    · rcases List.mem_append.mp m with m | m
      · exact a p m
      · rw [List.mem_singleton.mp m]
        exact b
theorem parts_len (ls : List Lp) (cs : List Int) : (partsD ls cs).length ≤ ls.length * ls.length := by
  have a := threads_len ls cs (ysOf ls) []
  simp only [List.length_nil, Nat.zero_add] at a
  refine Nat.le_trans a (Nat.mul_le_mul ?_ (Nat.le_refl _))
  by_cases e : ∃ ys, IsYs ls ys
  · obtain ⟨ys, h⟩ := e
    rw [← ysOf_eq h]
    exact ys_len h
  · unfold ysOf
    rw [dif_neg e]
    exact Nat.zero_le _
theorem lay_part (p : List Nat) : (partD p).canLay0 = true ∧ (partD p).depth = 1 := by
  obtain ⟨a, b⟩ := lay_ints (p.map fun k : Nat => (k : Int))
  rw [List.map_map] at a b
  exact ⟨a, by show _ + 1 = 1; exact congrArg (· + 1) b⟩
theorem parts_good (ls : List Lp) (cs : List Int) (h : ls.length ≤ 1000) : (PyData.list ((partsD ls cs).map partD)).canLay0 = true ∧ (PyData.list ((partsD ls cs).map partD)).depth < 6 ∧ few (.list ((partsD ls cs).map partD)) = true := by
  have sh := parts_short ls cs (ysOf ls) [] (fun p m => absurd m List.not_mem_nil)
  have pl := parts_len ls cs
  have pl2 : ls.length * ls.length ≤ 1000 * 1000 := Nat.mul_le_mul h h
  generalize hP : partsD ls cs = P at pl
  have sh' : ∀ p ∈ P, p.length ≤ ls.length := by rw [← hP]; exact sh
  refine ⟨?_, ?_, ?_⟩
  · exact layAll_iff.mpr fun d hd => by obtain ⟨p, _, rfl⟩ := List.mem_map.mp hd; exact (lay_part p).1
  · have : PyData.depthAll (P.map partD) ≤ 1 := dpAll_iff.mpr fun d hd => by obtain ⟨p, _, rfl⟩ := List.mem_map.mp hd; exact Nat.le_of_eq (lay_part p).2
    show _ + 1 < 6
    omega
  · show (decide (_ ≤ 1000000) && fewAll _) = true
    rw [Bool.and_eq_true]
    refine ⟨decide_eq_true (by rw [List.length_map]; omega), ?_⟩
    have go : ∀ Q : List (List Nat), (∀ p ∈ Q, p.length ≤ 1000) → fewAll (Q.map partD) = true := fun Q => by
      induction Q with
      | nil => intro _; rfl
      | cons p Q ih =>
        intro hq
        show (few (partD p) && fewAll _) = true
        rw [ih fun p m => hq p (List.mem_cons_of_mem _ m), Bool.and_true]
        show (decide (_ ≤ 1000000) && fewAll _) = true
        have := hq p List.mem_cons_self
        have f := few_ints (p.map fun k : Nat => (k : Int))
        rw [List.map_map] at f
        rw [Bool.and_eq_true]
        exact ⟨decide_eq_true (by rw [List.length_map]; omega), f⟩
    exact go P fun p m => Nat.le_trans (sh' p m) h
section
variable {P : Program} {w : World} {K : PySem.W.Frag} {mg : Str → Option Value} {base : Heap} {CC : Addr}
end
end X6
/-! law -/
namespace X6
open PySem PySem.Spec PyProof.Rows L2 LK MXo MXi MXp MXr MXg MXt MXq MY
/-- what is drawn: a tuple of a list of loops and a list of fast ones -/
structure Stk where
  (t L G : Addr)
  (xs : List V)
  (ls : List Lp)
  (fs : List Int)
structure Stk.ok (K : PySem.W.Frag) (c : Addr) (H : Hp) (s : Stk) : Prop where
  here : ∀ H', Bt c H H' → H' s.t = some (.tup [.ref s.L, .ref s.G]) ∧ H' s.L = some (.lst s.xs) ∧ DpAll K H' s.xs (s.ls.map lpD) ∧ H' s.G = some (.lst (s.fs.map V.int))
  ln : s.ls.length ≤ 100
  okf : OkFs s.ls.length s.fs
  rt : ∃ ys, OkLs ys s.ls ∧ ∀ y ∈ ys, Yn y
  Lc : s.L ≠ c
  Gc : s.G ≠ c
theorem Stk.ok.bt {K : PySem.W.Frag} {c : Addr} {H H' : Hp} {s : Stk} (h : s.ok K c H) (b : Bt c H H') : s.ok K c H' := { h with here := fun H2 b2 => h.here H2 (b.trans b2) }
theorem stk_ok {K : PySem.W.Frag} {H H1 H' : Hp} {c t L G : Addr} {m : Nat} {ys : List Str} {ls : List Lp} {xs : List V} {fs : List Int} {B B1 B2 : Nat} (hc : CR H c B) (h1 : CR H1 c B1) (s : Scn K H H1 t L G m ys ls xs fs) (b : Bt c H1 H') (_ : CR H' c B2) (hm : m ≤ 100) : (Stk.mk t L G xs ls fs).ok K c H' := by
  have Lc : L ≠ c := cr_ne hc s.nL
  have Gc : G ≠ c := cr_ne hc s.nG
  refine ⟨fun H2 b2 => ?_, Nat.le_trans s.ln hm, s.fs, ⟨ys, s.ok, s.yn⟩, Lc, Gc⟩
  have bb := b.trans b2
  exact ⟨Tk.bt h1 bb _ _ (fun _ z => by cases z) s.et, bb _ _ Lc s.eL, lps_tk (Tk.bt h1 bb) s.dL, bb _ _ Gc s.eG⟩
/-- a stock and the cloth that was made of it -/
def Web (K : PySem.W.Frag) (CC c : Addr) (H : Hp) (s : Stk) (x : Addr) (ms : List Int) : Prop := s.ok K c H ∧ (∀ H', Bt c H H' → IsC K CC H' x s.ls ms) ∧ ms.Perm s.fs
theorem Web.bt {K : PySem.W.Frag} {CC c : Addr} {H H' : Hp} {s : Stk} {x : Addr} {ms : List Int} (h : Web K CC c H s x ms) (b : Bt c H H') : Web K CC c H' s x ms := ⟨h.1.bt b, fun H2 b2 => h.2.1 H2 (b.trans b2), h.2.2⟩
def Bt2 (c J : Addr) (H H' : Hp) : Prop := ∀ b o, b ≠ c → b ≠ J → H b = some o → H' b = some o
theorem isc_bt2 {K : PySem.W.Frag} {CC c J : Addr} {H : Hp} {B : Nat} {x dx L G : Addr} {xs zs : List V} {ls : List Lp} {ms : List Int} (hc : CR H c B) (hJ : H J = some (.lst zs)) (xc : x ≠ c) (Lc : L ≠ c) (Gc : G ≠ c) (xJ : x ≠ J) (LJ : L ≠ J) (GJ : G ≠ J) (hx : H x = some (.ins CC dx [("_loops", .ref L), ("_fast", .ref G)])) (hL : H L = some (.lst xs)) (dl : DpAll K H xs (ls.map lpD)) (hG : H G = some (.lst (ms.map V.int))) {H' : Hp} (b : Bt2 c J H H') : IsC K CC H' x ls ms := by
  have tk : Tk H H' := fun a o n e => by
    refine b a o (fun z => ?_) (fun z => ?_) e
    · obtain ⟨_, _, _, e', _⟩ := hc
      rw [z, e'] at e
      cases e
      exact n _ rfl
    · rw [z, hJ] at e
      cases e
      exact n _ rfl
  exact ⟨dx, L, G, xs, b _ _ xc xJ hx, b _ _ Lc LJ hL, lps_tk tk dl, b _ _ Gc GJ hG⟩
/-- the cloth of a stock, made while a list J grows -/
def WebJ (K : PySem.W.Frag) (CC c J : Addr) (H : Hp) (s : Stk) (x : Addr) (ms : List Int) : Prop := (∀ H', Bt2 c J H H' → IsC K CC H' x s.ls ms) ∧ ms.Perm s.fs
theorem make_web {P : Program} {w : World} {K : PySem.W.Frag} {mg : Str → Option Value} {base : Heap} {CC CF CL : Addr} (C : Cl2 P w K mg base CC CF CL) {c J : Addr} {H Hn : Hp} {B : Nat} {s : Stk} {zs : List V} (ok : s.ok K c H) (hc : CR H c B) (hJ : Hn J = some (.lst zs)) {x dx l g : Addr} {Q : VK} {E : XK} (s1 : Same H Hn) (el : Hn l = some (.lst s.xs)) (eg : Hn g = some (.lst (s.fs.map V.int))) (nx : Hn x = none) (ndx : Hn dx = none)
    (q : ∀ (H' : Hp) (ms : List Int), Same Hn H' → WebJ K CC c J H' s x ms → Q .non H') : spClo K CC CF CL [.ref x, .ref l, .ref g] (upd (upd Hn dx (.own x)) x (.ins CC dx [])) Q E := by
  obtain ⟨ys, okl, hy⟩ := ok.rt
  have cn := hc.same s1
  obtain ⟨e1, e2, e3, e4⟩ := ok.here Hn (Bt.of s1)
  refine clo_any C.cc C.n1 C.n2 el e3 eg okl hy ok.okf ok.ln nx ndx fun H4 ms L4 G4 xs4 s4 nL4 nG4 ex eL4 dL4 eG4 pm => q H4 ms s4 ⟨fun H5 b5 => ?_, pm⟩
  exact isc_bt2 (cn.same s4) (s4 _ _ hJ) (cr_ne cn nx) (cr_ne cn nL4) (cr_ne cn nG4) (Ne.symm (ne_none hJ nx)) (Ne.symm (ne_none hJ nL4)) (Ne.symm (ne_none hJ nG4)) ex eL4 dL4 eG4 b5
section
variable {P : Program} {w : World} {K : PySem.W.Frag} {mg : Str → Option Value} {base : Heap} {CC : Addr}
end
end X6
/-! law -/
namespace X6
open PySem PySem.Spec PyProof.Rows L2 LK MXo MXi MXp MXg MXq MY MZ MSu TL
/-- what is drawn, as it lies -/
structure Sok (K : PySem.W.Frag) (H : Hp) (s : Stk) : Prop where
  et : H s.t = some (.tup [.ref s.L, .ref s.G])
  eL : H s.L = some (.lst s.xs)
  dL : DpAll K H s.xs (s.ls.map lpD)
  eG : H s.G = some (.lst (s.fs.map V.int))
  ln : s.ls.length ≤ 1000
  rt : ∃ ys, OkLs ys s.ls ∧ ∀ y ∈ ys, Yn y
  okf : OkFs s.ls.length s.fs
theorem Sok.same {K : PySem.W.Frag} {H H' : Hp} {s : Stk} (h : Sok K H s) (e : Same H H') : Sok K H' s := { h with et := e _ _ h.et, eL := e _ _ h.eL, dL := dps_same e h.dL, eG := e _ _ h.eG }
theorem Sok.bt {K : PySem.W.Frag} {H H' : Hp} {c : Addr} {B : Nat} {s : Stk} (h : Sok K H s) (hc : CR H c B) (Lc : s.L ≠ c) (Gc : s.G ≠ c) (b : Bt c H H') : Sok K H' s :=
  { h with et := Tk.bt hc b _ _ (fun _ z => by cases z) h.et, eL := b _ _ Lc h.eL, dL := lps_tk (Tk.bt hc b) h.dL, eG := b _ _ Gc h.eG }
/-- the cloths made so far, in the list W -/
structure Wbs (K : PySem.W.Frag) (CC : Addr) (H0 H : Hp) (W : Addr) (stks : List Stk) (ws : List (Addr × List Int)) : Prop where
  eW : H W = some (.lst (ws.map fun p => V.ref p.1))
  same : Same H0 H
  nW : H0 W = none
  at_ : ∀ (k : Nat) (s : Stk) (p : Addr × List Int), stks[k]? = some s → ws[k]? = some p → (∀ H', Bt W H H' → IsC K CC H' p.1 s.ls p.2) ∧ p.2.Perm s.fs ∧ p.2.Pairwise (· < ·)
theorem Wbs.nil {K : PySem.W.Frag} {CC : Addr} {H : Hp} {W : Addr} {stks : List Stk} (n : H W = none) : Wbs K CC H (upd H W (.lst [])) W stks [] := ⟨upd_same, same_new n, n, fun k s p _ e => by simp at e⟩
theorem Wbs.more {K : PySem.W.Frag} {CC : Addr} {H0 H H' : Hp} {W x dx L G : Addr} {stks : List Stk} {ws : List (Addr × List Int)} {j : Nat} {s : Stk} {xs : List V} {ms : List Int} (h : Wbs K CC H0 H W stks ws) (S : Same H H') (hs : stks[j]? = some s) (wl : ws.length = j) (xW : x ≠ W) (LW : L ≠ W) (GW : G ≠ W)
    (ex : H' x = some (.ins CC dx [("_loops", .ref L), ("_fast", .ref G)])) (eL : H' L = some (.lst xs)) (dL : DpAll K H' xs (s.ls.map lpD)) (eG : H' G = some (.lst (ms.map V.int))) (pm : ms.Perm s.fs) (pw : ms.Pairwise (· < ·)) :
    Wbs K CC H0 (upd H' W (.lst ((ws.map fun p => V.ref p.1) ++ [.ref x]))) W stks (ws ++ [(x, ms)]) := by
  have eW := S _ _ h.eW
  refine ⟨by rw [upd_same, List.map_append]; rfl, fun b o e => ?_, h.nW, fun k s' p e1 e2 => ?_⟩
  · rw [upd_ne (ne_none e h.nW)]
    exact S _ _ (h.same _ _ e)
  · by_cases c : k < ws.length
    · rw [List.getElem?_append_left c] at e2
      obtain ⟨a1, a2, a3⟩ := h.at_ k s' p e1 e2
      refine ⟨fun H2 b => a1 H2 fun q o n e => ?_, a2, a3⟩
      exact b q o n (by rw [upd_ne n]; exact S _ _ e)
    · rw [List.getElem?_append_right (by omega)] at e2
      have k0 : k - ws.length = 0 := by
        have := (List.getElem?_eq_some_iff.mp e2).1
        rw [List.length_singleton] at this
        omega
      rw [k0] at e2
      cases e2
      obtain rfl : k = j := by omega
      obtain rfl : s = s' := Option.some.inj (hs.symm.trans e1)
      refine ⟨fun H2 b => ?_, pm, pw⟩
      have b' : ∀ q o, q ≠ W → H' q = some o → H2 q = some o := fun q o n e => b q o n (by rw [upd_ne n]; exact e)
      have tk : Tk H' H2 := fun q o no e => b' q o (fun z => by rw [z, eW] at e; cases e; exact no _ rfl) e
      exact ⟨dx, L, G, xs, b' _ _ xW ex, b' _ _ LW eL, lps_tk tk dL, b' _ _ GW eG⟩
section
variable {P : Program} {w : World} {K : PySem.W.Frag} {mg : Str → Option Value} {base : Heap} {CC : Addr}
abbrev sLaw : Stmt := top 43
theorem scLaw : FnScope ["script", "at", "creel", "yarns", "stocks", "webs", "k", "stock"] ["script"] (defScope sLaw) := ⟨rfl, rfl, rfl, by decide +kernel, rfl, by decide +kernel, by decide +kernel⟩
theorem ok_Law {f : Addr} {fd : FuncData} (F : Fun K "law" "law" sLaw f fd) (B : Bl mg) {CF CL : Addr} (C : Cl2 P w K mg base CC CF CL) (R : Pr2 P w K mg base CC)
    {f__law_creel : Addr} {d__law_creel : FuncData} (G__law_creel : FnOk P w K mg base CX0 1 f__law_creel d__law_creel ["script", "at"] (spCreel K)) (g__law_creel : mg "_law_creel" = some (.ref f__law_creel)) (k__law_creel : PySem.W.keepIn K (.ref f__law_creel) = true) (b__law_creel : Binds K d__law_creel ["script", "at"] [])
    {f__law_yarns : Addr} {d__law_yarns : FuncData} (G__law_yarns : FnOk P w K mg base CX0 2 f__law_yarns d__law_yarns ["creel", "many"] spYarns) (g__law_yarns : mg "_law_yarns" = some (.ref f__law_yarns)) (k__law_yarns : PySem.W.keepIn K (.ref f__law_yarns) = true) (b__law_yarns : Binds K d__law_yarns ["creel", "many"] [])
    {f__law_wordly : Addr} {d__law_wordly : FuncData} (G__law_wordly : FnOk P w K mg base CX0 2 f__law_wordly d__law_wordly ["creel", "yarns"] spWly) (g__law_wordly : mg "_law_wordly" = some (.ref f__law_wordly)) (k__law_wordly : PySem.W.keepIn K (.ref f__law_wordly) = true) (b__law_wordly : Binds K d__law_wordly ["creel", "yarns"] [])
    {f__law_any_cloth : Addr} {d__law_any_cloth : FuncData} (G__law_any_cloth : FnOk P w K mg base CX0 2 f__law_any_cloth d__law_any_cloth ["creel", "most", "yarns"] (spAny K)) (g__law_any_cloth : mg "_law_any_cloth" = some (.ref f__law_any_cloth)) (k__law_any_cloth : PySem.W.keepIn K (.ref f__law_any_cloth) = true) (b__law_any_cloth : Binds K d__law_any_cloth ["creel", "most", "yarns"] [])
    {f__law_loose : Addr} {d__law_loose : FuncData} (G__law_loose : FnOk P w K mg base CX0 4 f__law_loose d__law_loose ["creel", "up_to"] (spLoose K)) (g__law_loose : mg "_law_loose" = some (.ref f__law_loose)) (k__law_loose : PySem.W.keepIn K (.ref f__law_loose) = true) (b__law_loose : Binds K d__law_loose ["creel", "up_to"] [])
    {f__law_long_cloth : Addr} {d__law_long_cloth : FuncData} (G__law_long_cloth : FnOk P w K mg base CX0 2 f__law_long_cloth d__law_long_cloth ["creel", "yarns"] (spLcl K)) (g__law_long_cloth : mg "_law_long_cloth" = some (.ref f__law_long_cloth)) (k__law_long_cloth : PySem.W.keepIn K (.ref f__law_long_cloth) = true) (b__law_long_cloth : Binds K d__law_long_cloth ["creel", "yarns"] [])
    {f__law_told_right : Addr} {d__law_told_right : FuncData} (G__law_told_right : FnOk P w K mg base CX0 9 f__law_told_right d__law_told_right ["cloth_here", "stock"] (spTld K CC)) (g__law_told_right : mg "_law_told_right" = some (.ref f__law_told_right)) (k__law_told_right : PySem.W.keepIn K (.ref f__law_told_right) = true) (b__law_told_right : Binds K d__law_told_right ["cloth_here", "stock"] [])
    {f_write_cloth : Addr} {d_write_cloth : FuncData} (G_write_cloth : FnOk P w K mg base CX0 4 f_write_cloth d_write_cloth ["cloth"] (spWrc K CC)) (g_write_cloth : mg "write_cloth" = some (.ref f_write_cloth)) (k_write_cloth : PySem.W.keepIn K (.ref f_write_cloth) = true) (b_write_cloth : Binds K d_write_cloth ["cloth"] [])
    {f_read_cloth : Addr} {d_read_cloth : FuncData} (G_read_cloth : FnOk P w K mg base CX0 8 f_read_cloth d_read_cloth ["text"] (spRdc K CC)) (g_read_cloth : mg "read_cloth" = some (.ref f_read_cloth)) (k_read_cloth : PySem.W.keepIn K (.ref f_read_cloth) = true) (b_read_cloth : Binds K d_read_cloth ["text"] []) : FnOk P w K mg base CX0 10 f fd ["script"] (spLaw K) := by
  refine F.ok scLaw (fun vs H Q E h => ?_) (fun cdv A outer s H vs Q E hr h => ?_)
  · obtain ⟨a, ns, rfl, _⟩ := h
    rfl
  · obtain ⟨a, ns, rfl, hs, hn, k⟩ := h
    refine ⟨_, pss_cons (ps_for PassesOwn.never rfl (pi_range1 (by rfl) (B "range" (by decide)) (pa_cons (pe_callB (call_max2 rfl) (by rfl) (B "max" (by decide)) (by decide +kernel) (pa_cons pe_int (pa_cons (pe_callB (call_min2 rfl) (by rfl) (B "min" (by decide)) (by decide +kernel) (pa_cons pe_int (pa_cons (pe_callB call_len_seq (by rfl) (B "len" (by decide)) (by decide +kernel) (pa_cons (pv 0) pa_nil)) pa_nil))) pa_nil))) pa_nil)) (pg_name (i := 1) scLaw.nd rfl (Or.inl rfl)) (pss_cons (ps_set (i := 2) scLaw.nd rfl (Or.inl rfl) (pe_call (E := E0) G__law_creel (hr.mono (by decide)) rfl g__law_creel k__law_creel b__law_creel .nil pass0 (pa_cons (pv 0) (pa_cons (pv 1) pa_nil))))
      (pss_cons (ps_set (i := 3) scLaw.nd rfl (Or.inl rfl) (pe_call (E := E0) G__law_wordly (hr.mono (by decide)) rfl g__law_wordly k__law_wordly b__law_wordly .nil pass0 (pa_cons (pv 2) (pa_cons (pe_call (E := E0) G__law_yarns (hr.mono (by decide)) rfl g__law_yarns k__law_yarns b__law_yarns .nil pass0 (pa_cons (pv 2) (pa_cons pe_int pa_nil))) pa_nil))))
      (pss_cons (ps_set (i := 4) scLaw.nd rfl (Or.inl rfl) (pe_lst (pa_cons (pe_call (E := E0) G__law_any_cloth (hr.mono (by decide)) rfl g__law_any_cloth k__law_any_cloth b__law_any_cloth .nil pass0 (pa_cons (pv 2) (pa_cons pe_int (pa_cons (pv 3) pa_nil)))) (pa_cons (pe_call (E := E0) G__law_loose (hr.mono (by decide)) rfl g__law_loose k__law_loose b__law_loose .nil pass0 (pa_cons (pv 2) (pa_cons pe_int pa_nil))) (pa_cons (pe_call (E := E0) G__law_long_cloth (hr.mono (by decide)) rfl g__law_long_cloth k__law_long_cloth b__law_long_cloth .nil pass0 (pa_cons (pv 2) (pa_cons (pv 3) pa_nil))) pa_nil)))))
      (pss_cons (ps_setLc (i := 5) (own := [("stock", 7)]) (g := gName 7) (tt := tYes) rfl scLaw.nd rfl rfl (sw_true rfl rfl rfl (by decide +kernel)) (pi_list (pv 4)) (blkOk_by (N := ["script", "at", "creel", "yarns", "stocks", "webs", "k", "stock"]) (sc := defScope sLaw) (by decide +kernel)) (fun _ _ _ _ _ => pg_name (i := 7) scLaw.nd rfl (Or.inl rfl)) (fun _ _ _ _ _ => pts_nil) (fun _ _ _ _ _ => pe_makeS C.mC C.oC (hr.mono (by decide)) rfl C.gC C.bC (fun σ => L2N.passAt none0 σ) (pa_cons (pe_callTy (MYd.listK (K := K)) (by rfl) (B "list" (by decide)) (by decide +kernel) (pa_cons (pe_ix (ixt (K := K)) (pv 7) pe_int (fun _ _ => rfl)) pa_nil)) (pa_cons (pe_callTy (MYd.listK (K := K)) (by rfl) (B "list" (by decide)) (by decide +kernel) (pa_cons (pe_ix (ixt (K := K)) (pv 7) pe_int (fun _ _ => rfl)) pa_nil)) pa_nil))))
      (pss_one (ps_for PassesOwn.never rfl (pi_tup (pe_tup (pa_cons pe_int (pa_cons pe_int (pa_cons pe_int (pa_cons pe_int pa_nil)))))) (pg_name (i := 6) scLaw.nd rfl (Or.inl rfl)) (pss_one (ps_if (pt_not (pt_val (pe_call (E := E0) G__law_told_right (hr.mono (by decide)) rfl g__law_told_right k__law_told_right b__law_told_right .nil pass0 (pa_cons (pe_ix ix_list (pv 5) (pv 6) (fun _ _ => rfl)) (pa_cons (pe_ix ix_list (pv 4) (pv 6) (fun _ _ => rfl)) pa_nil))))) (pss_one (ps_ret pe_bl)) pss_nil)))))))))
      (pss_one (ps_ret (pe_and (pe_cmpR op_eq (pe_call (E := E0) G_write_cloth (hr.mono (by decide)) rfl g_write_cloth k_write_cloth b_write_cloth .nil pass0 (pa_cons (pe_call (E := E0) G_read_cloth (hr.mono (by decide)) rfl g_read_cloth k_read_cloth b_read_cloth .nil pass0 (pa_cons pe_str pa_nil)) pa_nil)) pe_str (nomark _)) (pe_one (pe_cmpR op_eq (pe_callB (call_lenO (E := E0) R.aN R.oN (hr.mono (by decide)) R.bN pass0) (by rfl) (B "len" (by decide)) (by decide +kernel) (pa_cons (pe_call (E := E0) G_read_cloth (hr.mono (by decide)) rfl g_read_cloth k_read_cloth b_read_cloth .nil pass0 (pa_cons pe_str pa_nil)) pa_nil)) pe_int (nomark _)))))), ?_⟩
    have ty2 : sizeLine = 16777216 := sizeLine_eq
    dsimp only [tSeq]
    refine ⟨_, rfl, a, _, rfl, .inl hs, ?_⟩
    rw [List.length_map]
    refine ⟨_, _, rfl, ?_⟩
    refine ⟨_, _, rfl, ?_⟩
    refine ⟨_, rfl, ?_, ?_, ?_⟩
    · (repeat' split) <;> omega
    · (repeat' split) <;> omega
    refine for_range (lo := 0) (n := _) (fun i σ H' => ∃ (y1 y2 y3 y4 y5 y6 y7 : Option V), σ = [some (.ref a), y1, y2, y3, y4, y5, y6, y7] ∧ Same H H')
      ⟨_, _, _, _, _, _, _, rfl, Same.refl H⟩ (fun i σ H1 hi hI => ?_) (fun σ H1 hI => ?_)
    · obtain ⟨y1, y2, y3, y4, y5, y6, y7, rfl, s1⟩ := hI
      have i4 : i ≤ 1000 := by
        (repeat' split at hi) <;> omega
      dsimp only [gName, List.set, tSeq]
      refine ⟨_, rfl, _, rfl, a, ns, i, by simp, s1.seq hs, i4, fun c H2 nc c2 s2 => ?_⟩
      have nc0 : H c = none := gone s1 nc
      have fin : ∀ {Hz : Hp}, Bt c H2 Hz → Same H Hz := fun b p o e => b _ _ (ne_none e nc0) (s2 _ _ (s1 _ _ e))
      dsimp only [gName, List.set, tSeq]
      refine ⟨_, rfl, _, rfl, c, 3, 0, rfl, by decide, c2, by omega, fun Y0 H3 ys nY0 c3 b3 eY0 yl0 yn0 => ?_⟩
      have Y0c : Y0 ≠ c := cr_ne c2 nY0
      have yne : ys ≠ [] := fun e => by
        rw [e] at yl0
        cases yl0
      refine ⟨c, Y0, _, ys, rfl, c3, by omega, eY0, yne, by omega, yn0, fun Y H4 zs nY c4 b4 eY zl zn => ?_⟩
      have Yc : Y ≠ c := cr_ne c3 nY
      have zne : zs ≠ [] := fun e => by rw [e] at zl; rw [yl0] at zl; cases zl
      have z1000 : zs.length ≤ 1000 := by omega
      dsimp only [gName, List.set, tSeq]
      refine ⟨_, rfl, _, rfl, c, Y, 50, _, zs, rfl, by decide, c4, by omega, eY, zne, z1000, fun t1 L1 G1 H5 ls1 xs1 fs1 nL1 nG1 LG1 et1 eL1 dL1 eG1 c5 b5 ln1 ok1 okf1 => ?_⟩
      have K1 : Sok K H5 ⟨t1, L1, G1, xs1, ls1, fs1⟩ := ⟨et1, eL1, dL1, eG1, by show ls1.length ≤ 1000; omega, ⟨zs, ok1, zn⟩, okf1⟩
      refine ⟨_, rfl, c, 50, _, rfl, by decide, c5, by omega, fun t2 L2 G2 H6 ys2 ls2 xs2 fs2 sc c6 b6 => ?_⟩
      have ln2 : ls2.length ≤ 1000 := by
        have := sc.ln
        have e : max 4 50 = 50 := by decide
        omega
      have K2 : Sok K H6 ⟨t2, L2, G2, xs2, ls2, fs2⟩ := ⟨sc.et, sc.eL, sc.dL, sc.eG, ln2, ⟨ys2, sc.ok, sc.yn⟩, sc.fs⟩
      have K1 := K1.bt c5 (cr_ne c4 nL1) (cr_ne c4 nG1) b6
      have eY := b6 _ _ Yc (b5 _ _ Yc eY)
      refine ⟨_, rfl, _, rfl, c, Y, _, zs, rfl, c6, by omega, eY, zne, z1000, fun t3 L3 G3 H7 ls3 xs3 fs3 nL3 nG3 LG3 et3 eL3 dL3 eG3 c7 b7 ln3 ok3 okf3 => ?_⟩
      have K3 : Sok K H7 ⟨t3, L3, G3, xs3, ls3, fs3⟩ := ⟨et3, eL3, dL3, eG3, by show ls3.length ≤ 1000; omega, ⟨zs, ok3, zn⟩, okf3⟩
      have K1 := K1.bt c6 (cr_ne c4 nL1) (cr_ne c4 nG1) b7
      have K2 := K2.bt c6 (cr_ne c5 sc.nL) (cr_ne c5 sc.nG) b7
      have bb : Bt c H2 H7 := ((b3.trans b4).trans (b5.trans b6)).trans b7
      have S7 : Same H H7 := fin bb
      clear et1 eL1 dL1 eG1 et3 eL3 dL3 eG3 sc b7 b6 b5 b4 b3 eY eY0 bb fin c2 c3 c4 c5 c6
      refine ⟨by show 3 ≤ sizeLine; decide, fun J nJ => ?_⟩
      have t := same_new (o := .lst [.ref t1, .ref t2, .ref t3]) nJ
      have eJ := upd_same (H := H7) (a := J) (o := .lst [.ref t1, .ref t2, .ref t3])
      have S8 := S7.trans t
      have K1 := K1.same t
      have K2 := K2.same t
      have K3 := K3.same t
      generalize upd H7 J (.lst [.ref t1, .ref t2, .ref t3]) = H8 at eJ S8 K1 K2 K3
      clear t nJ S7 c7
      obtain ⟨stks, hst⟩ : ∃ stks : List Stk, stks = [⟨t1, L1, G1, xs1, ls1, fs1⟩, ⟨t2, L2, G2, xs2, ls2, fs2⟩, ⟨t3, L3, G3, xs3, ls3, fs3⟩] := ⟨_, rfl⟩
      have eJ : H8 J = some (.lst (stks.map fun s => V.ref s.t)) := by rw [hst]; exact eJ
      have sl : stks.length = 3 := by rw [hst]; rfl
      have KA : ∀ s ∈ stks, Sok K H8 s := fun s m => by
        rw [hst] at m
        simp only [List.mem_cons, List.not_mem_nil, or_false] at m
        rcases m with rfl | rfl | rfl
        · exact K1
        · exact K2
        · exact K3
      clear K1 K2 K3 hst
      dsimp only [gName, List.set, tSeq]
      refine ⟨_, rfl, J, rfl, ⟨_, SqL.of eJ⟩, fun W nW => ?_⟩
      have JW : J ≠ W := ne_of_none eJ nW
      refine lc_list (K := K) (a := J) (xs := stks.map fun s => V.ref s.t) (fun j H' => ∃ ws : List (Addr × List Int), ws.length = j ∧ Wbs K CC H8 H' W stks ws)
        ⟨[], rfl, Wbs.nil nW⟩ (fun j H' _ hh => by obtain ⟨ws, _, hw⟩ := hh; exact SqL.of (hw.same _ _ eJ)) (fun j v H9 hv hh => ⟨rfl, ?_⟩) (fun H9 hh => ?_)
      · obtain ⟨ws, wl, hw⟩ := hh
        rw [List.getElem?_map] at hv
        obtain ⟨s, hsj, rfl⟩ := Option.map_eq_some_iff.mp hv
        have ks := (KA s (List.mem_of_getElem? hsj)).same hw.same
        obtain ⟨ys', okl, hy'⟩ := ks.rt
        refine ⟨_, rfl, s.t, _, 0, _, rfl, rfl, SqT.of ks.et, atI_nat (j := 0) rfl, s.L, _, rfl, .inl (SqL.of ks.eL), fun l nl => ?_⟩
        have q1 := same_new (o := .lst s.xs) nl
        refine ⟨_, rfl, s.t, _, 1, _, rfl, rfl, SqT.of (q1 _ _ ks.et), atI_nat (j := 1) rfl, s.G, _, rfl, .inl (SqL.of (q1 _ _ ks.eG)), fun g ng => ?_⟩
        have q2 := same_new (o := .lst (s.fs.map V.int)) ng
        intro x dx nx ndx ne
        have el := q2 _ _ (upd_same (H := H9) (a := l) (o := .lst s.xs))
        have S0 := q1.trans q2
        refine clo_anyT C.cc C.n1 C.n2 el (dps_same S0 ks.dL) upd_same okl hy' ks.okf ks.ln nx ndx fun H10 ms L4 G4 xs4 s4 nL4 nG4 ex eL4 dL4 eG4 pm pw => ⟨rfl, ?_⟩
        have S := S0.trans s4
        have eW := S _ _ hw.eW
        refine ⟨_, eW, by rw [List.length_map, wl]; have := (List.getElem?_eq_some_iff.mp hsj).1; exact Nat.lt_of_lt_of_le (by omega : j < 3) (by decide), ws ++ [(x, ms)], by rw [List.length_append, wl]; rfl, ?_⟩
        have xW : x ≠ W := fun e => by rw [e, S0 _ _ hw.eW] at nx; cases nx
        have LW : L4 ≠ W := fun e => by rw [e, S0 _ _ hw.eW] at nL4; cases nL4
        have GW : G4 ≠ W := fun e => by rw [e, S0 _ _ hw.eW] at nG4; cases nG4
        have nd : ms.Pairwise (· < ·) := (List.Pairwise.and pw (pm.nodup_iff.mpr ks.okf.1)).imp fun h => by omega
        exact hw.more S hsj wl xW LW GW ex eL4 dL4 eG4 pm nd
      · obtain ⟨ws, wl, hw⟩ := hh
        rw [List.length_map] at wl
        have S9 := S8.trans hw.same
        have eJ := hw.same _ _ eJ
        have KA : ∀ s ∈ stks, Sok K H9 s := fun s m => (KA s m).same hw.same
        have eW := hw.eW
        dsimp only [gName, List.set, tSeq]
        refine ⟨by show 4 ≤ sizeLine; decide, fun T nT => ?_⟩
        have t := same_new (o := .tup [.int 0, .int 1, .int 2, .int 0]) nT
        have eT := upd_same (H := H9) (a := T) (o := .tup [.int 0, .int 1, .int 2, .int 0])
        generalize hH : upd H9 T (.tup [.int 0, .int 1, .int 2, .int 0]) = HT at t eT
        refine ⟨T, rfl, ⟨_, .inl (.inl eT)⟩, ?_⟩
        refine for_tup (K := K) (a := T) (xs := [.int 0, .int 1, .int 2, .int 0]) (fun j σ Hn => ∃ (y6 y7 : Option V), σ = [some (.ref a), some (.int (0 + (i : Int))), some (.ref c), some (.ref Y), some (.ref J), some (.ref W), y6, y7] ∧ Same HT Hn) ⟨_, _, rfl, Same.refl _⟩ (fun j σ Hn hj hI => by obtain ⟨_, _, _, s⟩ := hI; exact .inl (.inl (s _ _ eT))) (fun j v σ Hn hv hI => ?_) (fun σ Hn hI => ?_)
        · obtain ⟨y6, y7, rfl, s⟩ := hI
          have S := t.trans s
          obtain ⟨k3, hk3, rfl⟩ : ∃ k3 : Nat, k3 < 3 ∧ v = .int (k3 : Int) := by
            match j, hv with
            | 0, hv => exact ⟨0, by decide, (Option.some.inj hv).symm⟩
            | 1, hv => exact ⟨1, by decide, (Option.some.inj hv).symm⟩
            | 2, hv => exact ⟨2, by decide, (Option.some.inj hv).symm⟩
            | 3, hv => exact ⟨0, by decide, (Option.some.inj hv).symm⟩
          obtain ⟨sk, hsk⟩ : ∃ sk, stks[k3]? = some sk := ⟨_, List.getElem?_eq_getElem (by omega)⟩
          obtain ⟨p, hp⟩ : ∃ p, ws[k3]? = some p := ⟨_, List.getElem?_eq_getElem (by omega)⟩
          obtain ⟨ic, pm, pw⟩ := hw.at_ k3 sk p hsk hp
          have ks := (KA sk (List.mem_of_getElem? hsk)).same S
          obtain ⟨ys', okl, hy'⟩ := ks.rt
          dsimp only [gName, List.set]
          refine ⟨_, rfl, _, rfl, W, _, _, _, rfl, rfl, SqL.of (S _ _ eW), atI_nat (j := k3) (by rw [List.getElem?_map, hp]; rfl), ?_⟩
          refine ⟨_, rfl, _, rfl, J, _, _, _, rfl, rfl, SqL.of (S _ _ eJ), atI_nat (j := k3) (by rw [List.getElem?_map, hsk]; rfl), ?_⟩
          refine ⟨p.1, sk.t, sk.L, sk.G, sk.xs, ys', sk.ls, sk.fs, p.2, rfl, ks.et, ks.eL, ks.dL, ks.eG, ic _ (Bt.of S), pm, pw, okl, hy', ks.ln, ks.okf, fun H12 s12 => ⟨_, rfl, LK.ifF rfl ?_⟩⟩
          exact ⟨_, _, rfl, s.trans s12⟩
        · obtain ⟨y6, y7, rfl, s⟩ := hI
          exact ⟨_, _, _, _, _, _, _, rfl, S9.trans (t.trans s)⟩
    · obtain ⟨y1, y2, y3, y4, y5, y6, y7, rfl, s1⟩ := hI
      dsimp only [tSeq]
      have e0 : clothD [] [] = ("=\n" : Str) := by decide +kernel
      have ok0 : OkLs [] [] := fun k l e => by simp at e
      refine ⟨[], [], [], by rw [e0]; rfl, ok0, fun y m => absurd m List.not_mem_nil, by decide, ⟨List.nodup_nil, fun z m => absurd m List.not_mem_nil⟩, List.Pairwise.nil, fun q H2 nq s2 hq => ?_⟩
      obtain ⟨dq, Lq, Gq, xq, _, _, hq, hLq, dLq, hGq⟩ := hq
      refine ⟨q, [], [], rfl, ⟨dq, Lq, Gq, xq, hq, hLq, dLq, hGq⟩, by decide, by decide, fun l m => absurd m List.not_mem_nil, fun l m => absurd m List.not_mem_nil, fun z m => absurd m List.not_mem_nil, fun H3 s3 => ?_⟩
      rw [e0]
      refine ⟨rfl, _, rfl, LK.ifT (decide_eq_true rfl) ?_⟩
      refine ⟨[], [], [], by rw [e0]; rfl, ok0, fun y m => absurd m List.not_mem_nil, by decide, ⟨List.nodup_nil, fun z m => absurd m List.not_mem_nil⟩, List.Pairwise.nil, fun r H4 nr s4 hr => ?_⟩
      obtain ⟨dr, Lr, Gr, xr, _, _, hr, hLr, dLr, hGr⟩ := hr
      cases dLr
      exact ⟨r, dr, _, rfl, hr, r, dr, Lr, _, [], rfl, hr, R.cc, R.n1, rfl, hLr, 0, rfl, by decide, by decide, rfl, k H4⟩
end
end X6
namespace X6
open PySem PySem.Spec PyProof.Rows L2 L2H LK MXb MXd MXe MXf MXg MXi MXp MXq MZ MY MSu
/-- the facts of an error class that are reckoned at once -/
def chkE (K : PySem.W.Frag) (fI C : Addr) : Bool :=
  decide (PySem.W.findIn K (.ref C) "__setattr__" = some (some (.builtin "object.__setattr__"))) && (decide (PySem.W.subIn K (.ref C) (.type "BaseException") = some true) && (decide (PySem.W.typeIn K (.ref C) = some (.type "type")) &&
  (PySem.W.keepIn K (.ref C) && (decide (PySem.W.findIn K (.ref C) "__init__" = some (some (.ref fI))) && (decide (PySem.W.typeIn K (.ref fI) = some (.type "function")) && (decide (PySem.W.findIn K (.ref C) "value" = some none) &&
  (decide (PySem.W.findIn K (.ref C) "__getattribute__" = some (some (.builtin "BaseException.__getattribute__"))) && (decide (PySem.W.findIn K (.ref C) "__getattr__" = some none) && (PySem.W.hasDictIn K C &&
  (decide (PySem.W.findIn K (.ref C) "__class__" = some (some (.builtin "object.__class__"))) && (decide (PySem.W.specialIn K (.builtin "object.__class__") "__get__" = some (some (.builtin "getset_descriptor.__get__"))) &&
  (decide (PySem.W.takesIn K (.builtin "object.__class__") = some true) && decide (PySem.W.mroIn K C (.type "object") = some true)))))))))))))
/-- the class object of an error -/
def ClsE (K : PySem.W.Frag) (C : Addr) : Prop := ∃ nm q N bs bm sn sub ab col dd k0 k1 k2 k3 k5, K.lookup C = some (excClassObj nm q C N bs bm true sn sub ab col dd k0 k1 k2 k3 k5 "ValueError.__new__") ∧ PySem.HandSPX.refsVE bm = true
theorem clse_mk {K : PySem.W.Frag} {C : Addr} {nm q : Str} {N : Addr} {bs bm : List Value} {sn : List Str} {sub : List Value} {ab : Bool} {col : Option Bool} {dd : Option Addr} {k0 k1 k2 k3 k5 : Option Value}
    (e : K.lookup C = some (excClassObj nm q C N bs bm true sn sub ab col dd k0 k1 k2 k3 k5 "ValueError.__new__")) (r : PySem.HandSPX.refsVE bm = true) : ClsE K C := ⟨_, _, _, _, _, _, _, _, _, _, _, _, _, _, _, e, r⟩
theorem xce_of {K : PySem.W.Frag} {mg : Str → Option Value} {fI C : Addr} {nm : Str} (g : mg nm = some (.ref C)) (x : ClsE K C) (c : chkE K fI C = true) : XC K mg fI C nm "value" := by
  unfold chkE at c
  simp only [Bool.and_eq_true, decide_eq_true_eq] at c
  obtain ⟨h1, h2, h3, h4, h5, h6, h7, h8, h9, h10, h11, h12, h13, h14⟩ := c
  exact ⟨g, ⟨x, h1, h2, h3, h4⟩, h5, h6, h7, ⟨h8, h9, h2, h10⟩, ⟨h8, h9, h2, h10, h11, h12, h13, h14⟩⟩
/-- the facts of the class -/
def chkC (K : PySem.W.Frag) (C : Addr) : Bool :=
  PySem.W.plainGet K C Str.empty && (PySem.W.hasDictIn K C && (PySem.W.plainOver K C && (decide (PySem.W.findIn K (.ref C) "__setattr__" = some (some (.builtin "object.__setattr__"))) &&
  (decide (PySem.W.findIn K (.ref C) "_loops" = some none) && (decide (PySem.W.findIn K (.ref C) "_fast" = some none) && (decide (PySem.W.findIn K (.ref C) "__class__" = some (some (.builtin "object.__class__"))) &&
  (decide (PySem.W.specialIn K (.builtin "object.__class__") "__get__" = some (some (.builtin "getset_descriptor.__get__"))) && (decide (PySem.W.takesIn K (.builtin "object.__class__") = some true) && (decide (PySem.W.mroIn K C (.type "object") = some true) &&
  (decide (PySem.W.kitOne K (.ref C) (.ref C) = some true) && decide (PySem.W.kitOne K (.ref C) (.type "tuple") = some false)))))))))))
theorem chkC_of {K : PySem.W.Frag} {C : Addr} (h : chkC K C = true) : Cls K C ∧ NoAttr K C "_loops" ∧ NoAttr K C "_fast" ∧ InsTy K C := by
  unfold chkC at h
  simp only [Bool.and_eq_true, decide_eq_true_eq] at h
  obtain ⟨h1, h2, h3, h4, h5, h6, h7, h8, h9, h10, h11, h12⟩ := h
  have c : Cls K C := ⟨h1, h2, h3, h4⟩
  exact ⟨c, h5, h6, ⟨fun e => .base (.ins e c h7 h8 h9 h10), h11, h12⟩⟩
/-- a property's facts -/
def chkP (K : PySem.W.Frag) (p : Addr) : Bool := decide (PySem.W.specialIn K (.ref p) "__get__" = some (some (.builtin "property.__get__"))) && decide (PySem.W.takesIn K (.ref p) = some true)
theorem prp_of {K : PySem.W.Frag} {C p g : Addr} {f : Str} {rest : List Value} (a : PySem.W.findIn K (.ref C) f = some (some (.ref p))) (r : PySem.W.recIn K p "property" = some (.ref g :: rest)) (h : chkP K p = true) : PropOf K C f p g := by
  unfold chkP at h
  simp only [Bool.and_eq_true, decide_eq_true_eq] at h
  exact ⟨a, h.1, h.2, _, r⟩
def chkN (K : PySem.W.Frag) : Bool := blts.all fun n => decide (PySem.W.nsIn K mainGlobals n = some none)


theorem all_mk {P : Program} {w : World} {K : PySem.W.Frag} {h : Heap} {mg : Str → Option Value} {fa CR CF CL CC p_gl p_gf f_ply f_cre f_int f_num f_thr f_wro f_par f_loo f_ckl f_ckf f_kid f_yar f_any f_mat f_row f_wrk f_dro f_dwo f_loz f_rnm f_rns f_spl f_wrc f_rdc f_lin f_ctx f_wly f_lcl f_tld f_law f_ini f_clo f_len f_equ f_gl f_gf : Addr} {tLT : Tok} {r_gl r_gf : List Value} (X : K.In h) (G : h.Ns mainGlobals mg) (hfa : mg "law" = some (.ref fa))
    {od_ply an_ply : Option Addr} {sl_ply : Array (Option Value)} {oc_ply kV_ply dc_ply pm_ply cd_ply ct_ply : Value}
    {od_cre an_cre : Option Addr} {sl_cre : Array (Option Value)} {oc_cre kV_cre dc_cre pm_cre cd_cre ct_cre : Value}
    {od_int an_int : Option Addr} {sl_int : Array (Option Value)} {oc_int kV_int dc_int pm_int cd_int ct_int : Value}
    {od_num an_num : Option Addr} {sl_num : Array (Option Value)} {oc_num kV_num dc_num pm_num cd_num ct_num : Value}
    {od_thr an_thr : Option Addr} {sl_thr : Array (Option Value)} {oc_thr kV_thr dc_thr pm_thr cd_thr ct_thr : Value}
    {od_wro an_wro : Option Addr} {sl_wro : Array (Option Value)} {oc_wro kV_wro dc_wro pm_wro cd_wro ct_wro : Value}
    {od_par an_par : Option Addr} {sl_par : Array (Option Value)} {oc_par kV_par dc_par pm_par cd_par ct_par : Value}
    {od_loo an_loo : Option Addr} {sl_loo : Array (Option Value)} {oc_loo kV_loo dc_loo pm_loo cd_loo ct_loo : Value}
    {od_ckl an_ckl : Option Addr} {sl_ckl : Array (Option Value)} {oc_ckl kV_ckl dc_ckl pm_ckl cd_ckl ct_ckl : Value}
    {od_ckf an_ckf : Option Addr} {sl_ckf : Array (Option Value)} {oc_ckf kV_ckf dc_ckf pm_ckf cd_ckf ct_ckf : Value}
    {od_kid an_kid : Option Addr} {sl_kid : Array (Option Value)} {oc_kid kV_kid dc_kid pm_kid cd_kid ct_kid : Value}
    {od_yar an_yar : Option Addr} {sl_yar : Array (Option Value)} {oc_yar kV_yar dc_yar pm_yar cd_yar ct_yar : Value}
    {od_any an_any : Option Addr} {sl_any : Array (Option Value)} {oc_any kV_any dc_any pm_any cd_any ct_any : Value}
    {od_mat an_mat : Option Addr} {sl_mat : Array (Option Value)} {oc_mat kV_mat dc_mat pm_mat cd_mat ct_mat : Value}
    {od_row an_row : Option Addr} {sl_row : Array (Option Value)} {oc_row kV_row dc_row pm_row cd_row ct_row : Value}
    {od_wrk an_wrk : Option Addr} {sl_wrk : Array (Option Value)} {oc_wrk kV_wrk dc_wrk pm_wrk cd_wrk ct_wrk : Value}
    {od_dro an_dro : Option Addr} {sl_dro : Array (Option Value)} {oc_dro kV_dro dc_dro pm_dro cd_dro ct_dro : Value}
    {od_dwo an_dwo : Option Addr} {sl_dwo : Array (Option Value)} {oc_dwo kV_dwo dc_dwo pm_dwo cd_dwo ct_dwo : Value}
    {od_loz an_loz : Option Addr} {sl_loz : Array (Option Value)} {oc_loz kV_loz dc_loz pm_loz cd_loz ct_loz : Value}
    {od_rnm an_rnm : Option Addr} {sl_rnm : Array (Option Value)} {oc_rnm kV_rnm dc_rnm pm_rnm cd_rnm ct_rnm : Value}
    {od_rns an_rns : Option Addr} {sl_rns : Array (Option Value)} {oc_rns kV_rns dc_rns pm_rns cd_rns ct_rns : Value}
    {od_spl an_spl : Option Addr} {sl_spl : Array (Option Value)} {oc_spl kV_spl dc_spl pm_spl cd_spl ct_spl : Value}
    {od_wrc an_wrc : Option Addr} {sl_wrc : Array (Option Value)} {oc_wrc kV_wrc dc_wrc pm_wrc cd_wrc ct_wrc : Value}
    {od_rdc an_rdc : Option Addr} {sl_rdc : Array (Option Value)} {oc_rdc kV_rdc dc_rdc pm_rdc cd_rdc ct_rdc : Value}
    {od_lin an_lin : Option Addr} {sl_lin : Array (Option Value)} {oc_lin kV_lin dc_lin pm_lin cd_lin ct_lin : Value}
    {od_ctx an_ctx : Option Addr} {sl_ctx : Array (Option Value)} {oc_ctx kV_ctx dc_ctx pm_ctx cd_ctx ct_ctx : Value}
    {od_wly an_wly : Option Addr} {sl_wly : Array (Option Value)} {oc_wly kV_wly dc_wly pm_wly cd_wly ct_wly : Value}
    {od_lcl an_lcl : Option Addr} {sl_lcl : Array (Option Value)} {oc_lcl kV_lcl dc_lcl pm_lcl cd_lcl ct_lcl : Value}
    {od_tld an_tld : Option Addr} {sl_tld : Array (Option Value)} {oc_tld kV_tld dc_tld pm_tld cd_tld ct_tld : Value}
    {od_law an_law : Option Addr} {sl_law : Array (Option Value)} {oc_law kV_law dc_law pm_law cd_law ct_law : Value}
    {od_ini an_ini : Option Addr} {sl_ini : Array (Option Value)} {oc_ini kV_ini dc_ini pm_ini cd_ini ct_ini : Value}
    {od_clo an_clo : Option Addr} {sl_clo : Array (Option Value)} {oc_clo kV_clo dc_clo pm_clo cd_clo ct_clo : Value}
    {od_len an_len : Option Addr} {sl_len : Array (Option Value)} {oc_len kV_len dc_len pm_len cd_len ct_len : Value}
    {od_equ an_equ : Option Addr} {sl_equ : Array (Option Value)} {oc_equ kV_equ dc_equ pm_equ cd_equ ct_equ : Value}
    {od_gl an_gl : Option Addr} {sl_gl : Array (Option Value)} {oc_gl kV_gl dc_gl pm_gl cd_gl ct_gl : Value}
    {od_gf an_gf : Option Addr} {sl_gf : Array (Option Value)} {oc_gf kV_gf dc_gf pm_gf cd_gf ct_gf : Value}
    {tD : Tok}
    (aR : PySem.W.nsIn K mainGlobals "RunError" = some (some (.ref CR)))
    (aF : PySem.W.nsIn K mainGlobals "InvalidFast" = some (some (.ref CF)))
    (xF : ClsE K CF)
    (aL : PySem.W.nsIn K mainGlobals "InvalidLoops" = some (some (.ref CL)))
    (xL : ClsE K CL)
    (aC : PySem.W.nsIn K mainGlobals "Cloth" = some (some (.ref CC)))
    (mC : PySem.W.makesIn K CC = true)
    (kC : PySem.W.keepIn K (.ref CC) = true)
    (aT : PySem.W.nsIn K mainGlobals "LONGEST_THREAD" = some (some (.int 8 tLT)))
    (n_ply : PySem.W.nsIn K mainGlobals "_law_ply" = some (some (.ref f_ply)))
    (n_cre : PySem.W.nsIn K mainGlobals "_law_creel" = some (some (.ref f_cre)))
    (n_int : PySem.W.nsIn K mainGlobals "is_integer" = some (some (.ref f_int)))
    (n_num : PySem.W.nsIn K mainGlobals "is_number" = some (some (.ref f_num)))
    (n_thr : PySem.W.nsIn K mainGlobals "is_thread" = some (some (.ref f_thr)))
    (n_wro : PySem.W.nsIn K mainGlobals "wrong_number" = some (some (.ref f_wro)))
    (n_par : PySem.W.nsIn K mainGlobals "is_parents" = some (some (.ref f_par)))
    (n_loo : PySem.W.nsIn K mainGlobals "is_loop" = some (some (.ref f_loo)))
    (n_ckl : PySem.W.nsIn K mainGlobals "check_loops" = some (some (.ref f_ckl)))
    (n_ckf : PySem.W.nsIn K mainGlobals "check_fast" = some (some (.ref f_ckf)))
    (n_kid : PySem.W.nsIn K mainGlobals "_law_kids" = some (some (.ref f_kid)))
    (n_yar : PySem.W.nsIn K mainGlobals "_law_yarns" = some (some (.ref f_yar)))
    (n_any : PySem.W.nsIn K mainGlobals "_law_any_cloth" = some (some (.ref f_any)))
    (n_mat : PySem.W.nsIn K mainGlobals "_law_matched" = some (some (.ref f_mat)))
    (n_row : PySem.W.nsIn K mainGlobals "_law_row_done" = some (some (.ref f_row)))
    (n_wrk : PySem.W.nsIn K mainGlobals "_law_work_done" = some (some (.ref f_wrk)))
    (n_dro : PySem.W.nsIn K mainGlobals "_law_drawn_row" = some (some (.ref f_dro)))
    (n_dwo : PySem.W.nsIn K mainGlobals "_law_drawn_work" = some (some (.ref f_dwo)))
    (n_loz : PySem.W.nsIn K mainGlobals "_law_loose" = some (some (.ref f_loz)))
    (n_rnm : PySem.W.nsIn K mainGlobals "read_number" = some (some (.ref f_rnm)))
    (n_rns : PySem.W.nsIn K mainGlobals "read_numbers" = some (some (.ref f_rns)))
    (n_spl : PySem.W.nsIn K mainGlobals "split_text" = some (some (.ref f_spl)))
    (n_wrc : PySem.W.nsIn K mainGlobals "write_cloth" = some (some (.ref f_wrc)))
    (n_rdc : PySem.W.nsIn K mainGlobals "read_cloth" = some (some (.ref f_rdc)))
    (n_lin : PySem.W.nsIn K mainGlobals "_law_line_of" = some (some (.ref f_lin)))
    (n_ctx : PySem.W.nsIn K mainGlobals "_law_cloth_text" = some (some (.ref f_ctx)))
    (n_wly : PySem.W.nsIn K mainGlobals "_law_wordly" = some (some (.ref f_wly)))
    (n_lcl : PySem.W.nsIn K mainGlobals "_law_long_cloth" = some (some (.ref f_lcl)))
    (n_tld : PySem.W.nsIn K mainGlobals "_law_told_right" = some (some (.ref f_tld)))
    (n_law : PySem.W.nsIn K mainGlobals "law" = some (some (.ref f_law)))
    (n_ini : PySem.W.findIn K (.ref CR) "__init__" = some (some (.ref f_ini)))
    (i_ini : PySem.W.isFn K (.ref f_ini) = true)
    (n_clo : PySem.W.findIn K (.ref CC) "__init__" = some (some (.ref f_clo)))
    (i_clo : PySem.W.isFn K (.ref f_clo) = true)
    (n_len : PySem.W.findIn K (.ref CC) "__len__" = some (some (.ref f_len)))
    (i_len : PySem.W.isFn K (.ref f_len) = true)
    (n_equ : PySem.W.findIn K (.ref CC) "__eq__" = some (some (.ref f_equ)))
    (i_equ : PySem.W.isFn K (.ref f_equ) = true)
    (n_gl : PySem.W.findIn K (.ref CC) "loops" = some (some (.ref p_gl)))
    (q_gl : PySem.W.recIn K p_gl "property" = some (.ref f_gl :: r_gl))
    (n_gf : PySem.W.findIn K (.ref CC) "fast" = some (some (.ref p_gf)))
    (q_gf : PySem.W.recIn K p_gf "property" = some (.ref f_gf :: r_gf))
    (l_ply : K.lookup f_ply = some ⟨oc_ply, od_ply, .func (PySem.W.fnOf "_law_ply" "_law_ply" (defArgs sPly) (defBody sPly) (defScope sPly) .none kV_ply dc_ply pm_ply an_ply cd_ply ct_ply), sl_ply⟩)
    (c_ply : PySem.W.codeIn K cd_ply "_law_ply" = true)
    (k_ply : PySem.W.keepIn K (.ref f_ply) = true)
    (l_cre : K.lookup f_cre = some ⟨oc_cre, od_cre, .func (PySem.W.fnOf "_law_creel" "_law_creel" (defArgs sCreel) (defBody sCreel) (defScope sCreel) .none kV_cre dc_cre pm_cre an_cre cd_cre ct_cre), sl_cre⟩)
    (c_cre : PySem.W.codeIn K cd_cre "_law_creel" = true)
    (k_cre : PySem.W.keepIn K (.ref f_cre) = true)
    (l_int : K.lookup f_int = some ⟨oc_int, od_int, .func (PySem.W.fnOf "is_integer" "is_integer" (defArgs sIsInt) (defBody sIsInt) (defScope sIsInt) .none kV_int dc_int pm_int an_int cd_int ct_int), sl_int⟩)
    (c_int : PySem.W.codeIn K cd_int "is_integer" = true)
    (k_int : PySem.W.keepIn K (.ref f_int) = true)
    (l_num : K.lookup f_num = some ⟨oc_num, od_num, .func (PySem.W.fnOf "is_number" "is_number" (defArgs sIsNum) (defBody sIsNum) (defScope sIsNum) .none kV_num dc_num pm_num an_num cd_num ct_num), sl_num⟩)
    (c_num : PySem.W.codeIn K cd_num "is_number" = true)
    (k_num : PySem.W.keepIn K (.ref f_num) = true)
    (l_thr : K.lookup f_thr = some ⟨oc_thr, od_thr, .func (PySem.W.fnOf "is_thread" "is_thread" (defArgs sIsThr) (defBody sIsThr) (defScope sIsThr) .none kV_thr dc_thr pm_thr an_thr cd_thr ct_thr), sl_thr⟩)
    (c_thr : PySem.W.codeIn K cd_thr "is_thread" = true)
    (k_thr : PySem.W.keepIn K (.ref f_thr) = true)
    (l_wro : K.lookup f_wro = some ⟨oc_wro, od_wro, .func (PySem.W.fnOf "wrong_number" "wrong_number" (defArgs sWrong) (defBody sWrong) (defScope sWrong) .none kV_wro dc_wro pm_wro an_wro cd_wro ct_wro), sl_wro⟩)
    (c_wro : PySem.W.codeIn K cd_wro "wrong_number" = true)
    (k_wro : PySem.W.keepIn K (.ref f_wro) = true)
    (l_par : K.lookup f_par = some ⟨oc_par, od_par, .func (PySem.W.fnOf "is_parents" "is_parents" (defArgs sPar) (defBody sPar) (defScope sPar) .none kV_par dc_par pm_par an_par cd_par ct_par), sl_par⟩)
    (c_par : PySem.W.codeIn K cd_par "is_parents" = true)
    (k_par : PySem.W.keepIn K (.ref f_par) = true)
    (l_loo : K.lookup f_loo = some ⟨oc_loo, od_loo, .func (PySem.W.fnOf "is_loop" "is_loop" (defArgs sIsLoop) (defBody sIsLoop) (defScope sIsLoop) .none kV_loo dc_loo pm_loo an_loo cd_loo ct_loo), sl_loo⟩)
    (c_loo : PySem.W.codeIn K cd_loo "is_loop" = true)
    (k_loo : PySem.W.keepIn K (.ref f_loo) = true)
    (l_ckl : K.lookup f_ckl = some ⟨oc_ckl, od_ckl, .func (PySem.W.fnOf "check_loops" "check_loops" (defArgs sChkL) (defBody sChkL) (defScope sChkL) .none kV_ckl dc_ckl pm_ckl an_ckl cd_ckl ct_ckl), sl_ckl⟩)
    (c_ckl : PySem.W.codeIn K cd_ckl "check_loops" = true)
    (k_ckl : PySem.W.keepIn K (.ref f_ckl) = true)
    (l_ckf : K.lookup f_ckf = some ⟨oc_ckf, od_ckf, .func (PySem.W.fnOf "check_fast" "check_fast" (defArgs sChkF) (defBody sChkF) (defScope sChkF) .none kV_ckf dc_ckf pm_ckf an_ckf cd_ckf ct_ckf), sl_ckf⟩)
    (c_ckf : PySem.W.codeIn K cd_ckf "check_fast" = true)
    (k_ckf : PySem.W.keepIn K (.ref f_ckf) = true)
    (l_kid : K.lookup f_kid = some ⟨oc_kid, od_kid, .func (PySem.W.fnOf "_law_kids" "_law_kids" (defArgs sKids) (defBody sKids) (defScope sKids) .none kV_kid dc_kid pm_kid an_kid cd_kid ct_kid), sl_kid⟩)
    (c_kid : PySem.W.codeIn K cd_kid "_law_kids" = true)
    (k_kid : PySem.W.keepIn K (.ref f_kid) = true)
    (l_yar : K.lookup f_yar = some ⟨oc_yar, od_yar, .func (PySem.W.fnOf "_law_yarns" "_law_yarns" (defArgs sYarns) (defBody sYarns) (defScope sYarns) .none kV_yar dc_yar pm_yar an_yar cd_yar ct_yar), sl_yar⟩)
    (c_yar : PySem.W.codeIn K cd_yar "_law_yarns" = true)
    (k_yar : PySem.W.keepIn K (.ref f_yar) = true)
    (l_any : K.lookup f_any = some ⟨oc_any, od_any, .func (PySem.W.fnOf "_law_any_cloth" "_law_any_cloth" (defArgs sAny) (defBody sAny) (defScope sAny) .none kV_any dc_any pm_any an_any cd_any ct_any), sl_any⟩)
    (c_any : PySem.W.codeIn K cd_any "_law_any_cloth" = true)
    (k_any : PySem.W.keepIn K (.ref f_any) = true)
    (l_mat : K.lookup f_mat = some ⟨oc_mat, od_mat, .func (PySem.W.fnOf "_law_matched" "_law_matched" (defArgs sMat) (defBody sMat) (defScope sMat) .none kV_mat dc_mat pm_mat an_mat cd_mat ct_mat), sl_mat⟩)
    (c_mat : PySem.W.codeIn K cd_mat "_law_matched" = true)
    (k_mat : PySem.W.keepIn K (.ref f_mat) = true)
    (l_row : K.lookup f_row = some ⟨oc_row, od_row, .func (PySem.W.fnOf "_law_row_done" "_law_row_done" (defArgs sRow) (defBody sRow) (defScope sRow) .none kV_row dc_row pm_row an_row cd_row ct_row), sl_row⟩)
    (c_row : PySem.W.codeIn K cd_row "_law_row_done" = true)
    (k_row : PySem.W.keepIn K (.ref f_row) = true)
    (l_wrk : K.lookup f_wrk = some ⟨oc_wrk, od_wrk, .func (PySem.W.fnOf "_law_work_done" "_law_work_done" (defArgs sWork) (defBody sWork) (defScope sWork) .none kV_wrk dc_wrk pm_wrk an_wrk cd_wrk ct_wrk), sl_wrk⟩)
    (c_wrk : PySem.W.codeIn K cd_wrk "_law_work_done" = true)
    (k_wrk : PySem.W.keepIn K (.ref f_wrk) = true)
    (l_dro : K.lookup f_dro = some ⟨oc_dro, od_dro, .func (PySem.W.fnOf "_law_drawn_row" "_law_drawn_row" (defArgs sDRow) (defBody sDRow) (defScope sDRow) .none kV_dro dc_dro pm_dro an_dro cd_dro ct_dro), sl_dro⟩)
    (c_dro : PySem.W.codeIn K cd_dro "_law_drawn_row" = true)
    (k_dro : PySem.W.keepIn K (.ref f_dro) = true)
    (l_dwo : K.lookup f_dwo = some ⟨oc_dwo, od_dwo, .func (PySem.W.fnOf "_law_drawn_work" "_law_drawn_work" (defArgs sDWork) (defBody sDWork) (defScope sDWork) .none kV_dwo dc_dwo pm_dwo an_dwo cd_dwo ct_dwo), sl_dwo⟩)
    (c_dwo : PySem.W.codeIn K cd_dwo "_law_drawn_work" = true)
    (k_dwo : PySem.W.keepIn K (.ref f_dwo) = true)
    (l_loz : K.lookup f_loz = some ⟨oc_loz, od_loz, .func (PySem.W.fnOf "_law_loose" "_law_loose" (defArgs sLoo2) (defBody sLoo2) (defScope sLoo2) .none kV_loz dc_loz pm_loz an_loz cd_loz ct_loz), sl_loz⟩)
    (c_loz : PySem.W.codeIn K cd_loz "_law_loose" = true)
    (k_loz : PySem.W.keepIn K (.ref f_loz) = true)
    (l_rnm : K.lookup f_rnm = some ⟨oc_rnm, od_rnm, .func (PySem.W.fnOf "read_number" "read_number" (defArgs sRnm) (defBody sRnm) (defScope sRnm) .none kV_rnm dc_rnm pm_rnm an_rnm cd_rnm ct_rnm), sl_rnm⟩)
    (c_rnm : PySem.W.codeIn K cd_rnm "read_number" = true)
    (k_rnm : PySem.W.keepIn K (.ref f_rnm) = true)
    (l_rns : K.lookup f_rns = some ⟨oc_rns, od_rns, .func (PySem.W.fnOf "read_numbers" "read_numbers" (defArgs sRns) (defBody sRns) (defScope sRns) .none kV_rns dc_rns pm_rns an_rns cd_rns ct_rns), sl_rns⟩)
    (c_rns : PySem.W.codeIn K cd_rns "read_numbers" = true)
    (k_rns : PySem.W.keepIn K (.ref f_rns) = true)
    (l_spl : K.lookup f_spl = some ⟨oc_spl, od_spl, .func (PySem.W.fnOf "split_text" "split_text" (defArgs sSpl) (defBody sSpl) (defScope sSpl) .none kV_spl dc_spl pm_spl an_spl cd_spl ct_spl), sl_spl⟩)
    (c_spl : PySem.W.codeIn K cd_spl "split_text" = true)
    (k_spl : PySem.W.keepIn K (.ref f_spl) = true)
    (l_wrc : K.lookup f_wrc = some ⟨oc_wrc, od_wrc, .func (PySem.W.fnOf "write_cloth" "write_cloth" (defArgs sWrc) (defBody sWrc) (defScope sWrc) .none kV_wrc dc_wrc pm_wrc an_wrc cd_wrc ct_wrc), sl_wrc⟩)
    (c_wrc : PySem.W.codeIn K cd_wrc "write_cloth" = true)
    (k_wrc : PySem.W.keepIn K (.ref f_wrc) = true)
    (l_rdc : K.lookup f_rdc = some ⟨oc_rdc, od_rdc, .func (PySem.W.fnOf "read_cloth" "read_cloth" (defArgs sRdc) (defBody sRdc) (defScope sRdc) .none kV_rdc dc_rdc pm_rdc an_rdc cd_rdc ct_rdc), sl_rdc⟩)
    (c_rdc : PySem.W.codeIn K cd_rdc "read_cloth" = true)
    (k_rdc : PySem.W.keepIn K (.ref f_rdc) = true)
    (l_lin : K.lookup f_lin = some ⟨oc_lin, od_lin, .func (PySem.W.fnOf "_law_line_of" "_law_line_of" (defArgs sLin) (defBody sLin) (defScope sLin) .none kV_lin dc_lin pm_lin an_lin cd_lin ct_lin), sl_lin⟩)
    (c_lin : PySem.W.codeIn K cd_lin "_law_line_of" = true)
    (k_lin : PySem.W.keepIn K (.ref f_lin) = true)
    (l_ctx : K.lookup f_ctx = some ⟨oc_ctx, od_ctx, .func (PySem.W.fnOf "_law_cloth_text" "_law_cloth_text" (defArgs sCtx) (defBody sCtx) (defScope sCtx) .none kV_ctx dc_ctx pm_ctx an_ctx cd_ctx ct_ctx), sl_ctx⟩)
    (c_ctx : PySem.W.codeIn K cd_ctx "_law_cloth_text" = true)
    (k_ctx : PySem.W.keepIn K (.ref f_ctx) = true)
    (l_wly : K.lookup f_wly = some ⟨oc_wly, od_wly, .func (PySem.W.fnOf "_law_wordly" "_law_wordly" (defArgs sWly) (defBody sWly) (defScope sWly) .none kV_wly dc_wly pm_wly an_wly cd_wly ct_wly), sl_wly⟩)
    (c_wly : PySem.W.codeIn K cd_wly "_law_wordly" = true)
    (k_wly : PySem.W.keepIn K (.ref f_wly) = true)
    (l_lcl : K.lookup f_lcl = some ⟨oc_lcl, od_lcl, .func (PySem.W.fnOf "_law_long_cloth" "_law_long_cloth" (defArgs sLcl) (defBody sLcl) (defScope sLcl) .none kV_lcl dc_lcl pm_lcl an_lcl cd_lcl ct_lcl), sl_lcl⟩)
    (c_lcl : PySem.W.codeIn K cd_lcl "_law_long_cloth" = true)
    (k_lcl : PySem.W.keepIn K (.ref f_lcl) = true)
    (l_tld : K.lookup f_tld = some ⟨oc_tld, od_tld, .func (PySem.W.fnOf "_law_told_right" "_law_told_right" (defArgs sTld) (defBody sTld) (defScope sTld) .none kV_tld dc_tld pm_tld an_tld cd_tld ct_tld), sl_tld⟩)
    (c_tld : PySem.W.codeIn K cd_tld "_law_told_right" = true)
    (k_tld : PySem.W.keepIn K (.ref f_tld) = true)
    (l_law : K.lookup f_law = some ⟨oc_law, od_law, .func (PySem.W.fnOf "law" "law" (defArgs sLaw) (defBody sLaw) (defScope sLaw) .none kV_law dc_law pm_law an_law cd_law ct_law), sl_law⟩)
    (c_law : PySem.W.codeIn K cd_law "law" = true)
    (k_law : PySem.W.keepIn K (.ref f_law) = true)
    (l_ini : K.lookup f_ini = some ⟨oc_ini, od_ini, .func (PySem.W.fnOf "__init__" "RunError.__init__" (defArgs sInit) (defBody sInit) (defScope sInit) .none kV_ini dc_ini pm_ini an_ini cd_ini ct_ini), sl_ini⟩)
    (c_ini : PySem.W.codeIn K cd_ini "RunError.__init__" = true)
    (k_ini : PySem.W.keepIn K (.ref f_ini) = true)
    (l_clo : K.lookup f_clo = some ⟨oc_clo, od_clo, .func (PySem.W.fnOf "__init__" "Cloth.__init__" (defArgs sClo) (defBody sClo) (defScope sClo) .none kV_clo dc_clo pm_clo an_clo cd_clo ct_clo), sl_clo⟩)
    (c_clo : PySem.W.codeIn K cd_clo "Cloth.__init__" = true)
    (k_clo : PySem.W.keepIn K (.ref f_clo) = true)
    (l_len : K.lookup f_len = some ⟨oc_len, od_len, .func (PySem.W.fnOf "__len__" "Cloth.__len__" (defArgs sLn) (defBody sLn) (defScope sLn) .none kV_len dc_len pm_len an_len cd_len ct_len), sl_len⟩)
    (c_len : PySem.W.codeIn K cd_len "Cloth.__len__" = true)
    (k_len : PySem.W.keepIn K (.ref f_len) = true)
    (l_equ : K.lookup f_equ = some ⟨oc_equ, od_equ, .func (PySem.W.fnOf "__eq__" "Cloth.__eq__" (defArgs sEq) (defBody sEq) (defScope sEq) .none kV_equ dc_equ pm_equ an_equ cd_equ ct_equ), sl_equ⟩)
    (c_equ : PySem.W.codeIn K cd_equ "Cloth.__eq__" = true)
    (k_equ : PySem.W.keepIn K (.ref f_equ) = true)
    (l_gl : K.lookup f_gl = some ⟨oc_gl, od_gl, .func (PySem.W.fnOf "loops" "Cloth.loops" (defArgs sPl) (defBody sPl) (defScope sPl) .none kV_gl dc_gl pm_gl an_gl cd_gl ct_gl), sl_gl⟩)
    (c_gl : PySem.W.codeIn K cd_gl "Cloth.loops" = true)
    (k_gl : PySem.W.keepIn K (.ref f_gl) = true)
    (l_gf : K.lookup f_gf = some ⟨oc_gf, od_gf, .func (PySem.W.fnOf "fast" "Cloth.fast" (defArgs sPf) (defBody sPf) (defScope sPf) .none kV_gf dc_gf pm_gf an_gf cd_gf ct_gf), sl_gf⟩)
    (c_gf : PySem.W.codeIn K cd_gf "Cloth.fast" = true)
    (k_gf : PySem.W.keepIn K (.ref f_gf) = true)
    (hF : chkE K f_ini CF = true)
    (hL : chkE K f_ini CL = true)
    (hC : chkC K CC = true)
    (hP : (chkP K p_gl && chkP K p_gf) = true)
    (hN : chkN K = true)
    (aD : PySem.W.nsIn K mainGlobals "MOST_DIGITS" = some (some (.int 9 tD)))
    : ∃ fd : FuncData, (∀ (s : Shared) (v : Value), BindsTo s fd ⟨[v], []⟩ [("script", v)]) ∧ ∀ base : Heap, K.In base → base.Ns mainGlobals mg → FnOk P w K mg base CX0 10 fa fd ["script"] (spLaw K) := by
  have e := hfa.symm.trans (PySem.W.mg_of X G n_law)
  cases e
  have B : Bl mg := fun n hn => PySem.W.mg_none_of X G (of_decide_eq_true (List.all_eq_true.mp hN n hn))
  have XF := xce_of (PySem.W.mg_of X G aF) xF hF
  have XL' := xce_of (PySem.W.mg_of X G aL) xL hL
  obtain ⟨cc, n1, n2, it⟩ := chkC_of hC
  simp only [Bool.and_eq_true] at hP
  obtain ⟨hP0, hP1⟩ := hP
  have aL' := prp_of n_gl q_gl hP0
  have aF' := prp_of n_gf q_gf hP1
  have F_ply := fun_mk (st := sPly) l_ply c_ply k_ply
  have b_ply := F_ply.binds (ps := ["creel", "span"]) fun _ _ _ _ _ _ us hl => match us, hl with | [_, _], _ => rfl
  have F_cre := fun_mk (st := sCreel) l_cre c_cre k_cre
  have b_cre := F_cre.binds (ps := ["script", "at"]) fun _ _ _ _ _ _ us hl => match us, hl with | [_, _], _ => rfl
  have F_int := fun_mk (st := sIsInt) l_int c_int k_int
  have b_int := F_int.binds (ps := ["value"]) fun _ _ _ _ _ _ us hl => match us, hl with | [_], _ => rfl
  have F_num := fun_mk (st := sIsNum) l_num c_num k_num
  have b_num := F_num.binds (ps := ["value", "many"]) fun _ _ _ _ _ _ us hl => match us, hl with | [_, _], _ => rfl
  have F_thr := fun_mk (st := sIsThr) l_thr c_thr k_thr
  have b_thr := F_thr.binds (ps := ["value"]) fun _ _ _ _ _ _ us hl => match us, hl with | [_], _ => rfl
  have F_wro := fun_mk (st := sWrong) l_wro c_wro k_wro
  have b_wro := F_wro.binds (ps := ["numbers", "many"]) fun _ _ _ _ _ _ us hl => match us, hl with | [_, _], _ => rfl
  have F_par := fun_mk (st := sPar) l_par c_par k_par
  have b_par := F_par.binds (ps := ["value", "many"]) fun _ _ _ _ _ _ us hl => match us, hl with | [_, _], _ => rfl
  have F_loo := fun_mk (st := sIsLoop) l_loo c_loo k_loo
  have b_loo := F_loo.binds (ps := ["value", "number"]) fun _ _ _ _ _ _ us hl => match us, hl with | [_, _], _ => rfl
  have F_ckl := fun_mk (st := sChkL) l_ckl c_ckl k_ckl
  have b_ckl := F_ckl.binds (ps := ["loops"]) fun _ _ _ _ _ _ us hl => match us, hl with | [_], _ => rfl
  have F_ckf := fun_mk (st := sChkF) l_ckf c_ckf k_ckf
  have b_ckf := F_ckf.binds (ps := ["fast", "many"]) fun _ _ _ _ _ _ us hl => match us, hl with | [_, _], _ => rfl
  have F_kid := fun_mk (st := sKids) l_kid c_kid k_kid
  have b_kid := F_kid.binds (ps := ["loops_here", "spot"]) fun _ _ _ _ _ _ us hl => match us, hl with | [_, _], _ => rfl
  have F_yar := fun_mk (st := sYarns) l_yar c_yar k_yar
  have b_yar := F_yar.binds (ps := ["creel", "many"]) fun _ _ _ _ _ _ us hl => match us, hl with | [_, _], _ => rfl
  have F_any := fun_mk (st := sAny) l_any c_any k_any
  have b_any := F_any.binds (ps := ["creel", "most", "yarns"]) fun _ _ _ _ _ _ us hl => match us, hl with | [_, _, _], _ => rfl
  have F_mat := fun_mk (st := sMat) l_mat c_mat k_mat
  have b_mat := F_mat.binds (ps := ["found", "due"]) fun _ _ _ _ _ _ us hl => match us, hl with | [_, _], _ => rfl
  have F_row := fun_mk (st := sRow) l_row c_row k_row
  have b_row := F_row.binds (ps := ["loops_here", "fast_here", "needle_here", "course", "number"]) fun _ _ _ _ _ _ us hl => match us, hl with | [_, _, _, _, _], _ => rfl
  have F_wrk := fun_mk (st := sWork) l_wrk c_wrk k_wrk
  have b_wrk := F_wrk.binds (ps := ["yarn", "size", "courses"]) fun _ _ _ _ _ _ us hl => match us, hl with | [_, _, _], _ => rfl
  have F_dro := fun_mk (st := sDRow) l_dro c_dro k_dro
  have b_dro := F_dro.binds (ps := ["creel", "count", "yarns", "finite"]) fun _ _ _ _ _ _ us hl => match us, hl with | [_, _, _, _], _ => rfl
  have F_dwo := fun_mk (st := sDWork) l_dwo c_dwo k_dwo
  have b_dwo := F_dwo.binds (ps := ["creel", "yarns", "most", "rows_most", "most_loops"]) fun _ _ _ _ _ _ us hl => match us, hl with | [_, _, _, _, _], _ => rfl
  have F_loz := fun_mk (st := sLoo2) l_loz c_loz k_loz
  have b_loz := F_loz.binds (ps := ["creel", "up_to"]) fun _ _ _ _ _ _ us hl => match us, hl with | [_, _], _ => rfl
  have F_rnm := fun_mk (st := sRnm) l_rnm c_rnm k_rnm
  have b_rnm := F_rnm.binds (ps := ["word"]) fun _ _ _ _ _ _ us hl => match us, hl with | [_], _ => rfl
  have F_rns := fun_mk (st := sRns) l_rns c_rns k_rns
  have b_rns := F_rns.binds (ps := ["words"]) fun _ _ _ _ _ _ us hl => match us, hl with | [_], _ => rfl
  have F_spl := fun_mk (st := sSpl) l_spl c_spl k_spl
  have b_spl := F_spl.binds (ps := ["text"]) fun _ _ _ _ _ _ us hl => match us, hl with | [_], _ => rfl
  have F_wrc := fun_mk (st := sWrc) l_wrc c_wrc k_wrc
  have b_wrc := F_wrc.binds (ps := ["cloth"]) fun _ _ _ _ _ _ us hl => match us, hl with | [_], _ => rfl
  have F_rdc := fun_mk (st := sRdc) l_rdc c_rdc k_rdc
  have b_rdc := F_rdc.binds (ps := ["text"]) fun _ _ _ _ _ _ us hl => match us, hl with | [_], _ => rfl
  have F_lin := fun_mk (st := sLin) l_lin c_lin k_lin
  have b_lin := F_lin.binds (ps := ["parts"]) fun _ _ _ _ _ _ us hl => match us, hl with | [_], _ => rfl
  have F_ctx := fun_mk (st := sCtx) l_ctx c_ctx k_ctx
  have b_ctx := F_ctx.binds (ps := ["loops_here", "fast_here"]) fun _ _ _ _ _ _ us hl => match us, hl with | [_, _], _ => rfl
  have F_wly := fun_mk (st := sWly) l_wly c_wly k_wly
  have b_wly := F_wly.binds (ps := ["creel", "yarns"]) fun _ _ _ _ _ _ us hl => match us, hl with | [_, _], _ => rfl
  have F_lcl := fun_mk (st := sLcl) l_lcl c_lcl k_lcl
  have b_lcl := F_lcl.binds (ps := ["creel", "yarns"]) fun _ _ _ _ _ _ us hl => match us, hl with | [_, _], _ => rfl
  have F_tld := fun_mk (st := sTld) l_tld c_tld k_tld
  have b_tld := F_tld.binds (ps := ["cloth_here", "stock"]) fun _ _ _ _ _ _ us hl => match us, hl with | [_, _], _ => rfl
  have F_law := fun_mk (st := sLaw) l_law c_law k_law
  have F_ini := fun_mk (st := sInit) l_ini c_ini k_ini
  have b_ini := F_ini.binds (ps := ["self", "value"]) fun _ _ _ _ _ _ us hl => match us, hl with | [_, _], _ => rfl
  have F_clo := fun_mk (st := sClo) l_clo c_clo k_clo
  have b_clo := F_clo.binds (ps := ["self", "loops", "fast"]) fun _ _ _ _ _ _ us hl => match us, hl with | [_, _, _], _ => rfl
  have F_len := fun_mk (st := sLn) l_len c_len k_len
  have b_len := F_len.binds (ps := ["self"]) fun _ _ _ _ _ _ us hl => match us, hl with | [_], _ => rfl
  have F_equ := fun_mk (st := sEq) l_equ c_equ k_equ
  have b_equ := F_equ.binds (ps := ["self", "other"]) fun _ _ _ _ _ _ us hl => match us, hl with | [_, _], _ => rfl
  have F_gl := fun_mk (st := sPl) l_gl c_gl k_gl
  have b_gl := F_gl.binds (ps := ["self"]) fun _ _ _ _ _ _ us hl => match us, hl with | [_], _ => rfl
  have F_gf := fun_mk (st := sPf) l_gf c_gf k_gf
  have b_gf := F_gf.binds (ps := ["self"]) fun _ _ _ _ _ _ us hl => match us, hl with | [_], _ => rfl
  have bd : Bind1 K (PySem.W.fnOf "__init__" "RunError.__init__" (defArgs sInit) (defBody sInit) (defScope sInit) .none kV_ini dc_ini pm_ini an_ini cd_ini ct_ini) "value" := ⟨fun s a u _ => .of_eq rfl, fun s a u _ => .of_eq rfl⟩
  have q_wrc : KBinds K (PySem.W.fnOf "write_cloth" "write_cloth" (defArgs sWrc) (defBody sWrc) (defScope sWrc) .none kV_wrc dc_wrc pm_wrc an_wrc cd_wrc ct_wrc) ["cloth"] ["cloth"] (fwN 1) (fwN 1) := ⟨fun s us ws _ hl => match us, ws, hl with | [], [_], _ => .of_eq rfl, fun a b => fwN_rel a b⟩
  have q_rdc : KBinds K (PySem.W.fnOf "read_cloth" "read_cloth" (defArgs sRdc) (defBody sRdc) (defScope sRdc) .none kV_rdc dc_rdc pm_rdc an_rdc cd_rdc ct_rdc) ["text"] ["text"] (fwN 1) (fwN 1) := ⟨fun s us ws _ hl => match us, ws, hl with | [], [_], _ => .of_eq rfl, fun a b => fwN_rel a b⟩
  have m : ∀ {n : Str} {f : Addr}, PySem.W.nsIn K mainGlobals n = some (some (.ref f)) → mg n = some (.ref f) := fun q => PySem.W.mg_of X G q
  refine ⟨PySem.W.fnOf "law" "law" (defArgs sLaw) (defBody sLaw) (defScope sLaw) .none kV_law dc_law pm_law an_law cd_law ct_law, fun s v => .of_eq rfl, fun base _ _ => ?_⟩
  have I : Ini P w K mg base f_ini _ := ⟨ok_init F_ini, bd⟩
  have G_ply := ok_ply (P := P) (w := w) (base := base) F_ply B
  have G_cre := ok_creel (P := P) (w := w) (base := base) F_cre B
  have G_int := ok_IsInt (P := P) (w := w) (base := base) F_int B
  have G_num := ok_IsNum F_num B G_int (m n_int) k_int b_int
  have G_thr := ok_IsThr (P := P) (w := w) (base := base) F_thr B ⟨_, PySem.W.mg_of X G aT⟩
  have G_wro := ok_Wrong F_wro B G_num (m n_num) k_num b_num
  have G_par := ok_Par F_par B G_num (m n_num) k_num b_num
  have G_loo := ok_IsLoop F_loo B G_thr (m n_thr) k_thr b_thr G_par (m n_par) k_par b_par
  have G_ckl := ok_ChkL F_ckl B G_loo (m n_loo) k_loo b_loo I XL'
  have G_ckf := ok_ChkF F_ckf B G_wro (m n_wro) k_wro b_wro I XF
  have G_clo := ok_Clo (CC := CC) F_clo B G_ckl (m n_ckl) k_ckl b_ckl G_ckf (m n_ckf) k_ckf b_ckf
  have G_kid := ok_kids (P := P) (w := w) (base := base) F_kid B
  have G_yar := ok_yarns F_yar F_ply B (m n_ply) b_ply G_ply
  have G_any := ok_any F_any F_ply F_kid B (m n_ply) (m n_kid) b_ply b_kid G_ply G_kid
  have G_mat : FnOk P w K mg base CX0 6 f_mat _ ["found", "due"] (spM K 6) := mat_step 5 F_mat B (m n_mat) b_mat (mat_step 4 F_mat B (m n_mat) b_mat (mat_step 3 F_mat B (m n_mat) b_mat (mat_step 2 F_mat B (m n_mat) b_mat (mat_step 1 F_mat B (m n_mat) b_mat (mat_step 0 F_mat B (m n_mat) b_mat ok_never)))))
  have Pr : Pr2 P w K mg base CC := { pL := _, pF := _, gL := _, gF := _, gN := _, fL := _, fF := _, fN := _, aL := aL', aF := aF', aN := ⟨n_len, i_len⟩, bL := b_gl, bF := b_gf, bN := b_len, oL := ok_Pl F_gl B, oF := ok_Pf F_gf B, oN := ok_Ln F_len B, cc := cc, n1 := n1, n2 := n2 }
  have Cl : Cl2 P w K mg base CC CF CL := { fC := _, dC := _, cc := cc, n1 := n1, n2 := n2, mC := ⟨mC, n_clo, i_clo, kC⟩, oC := G_clo, gC := m aC, bC := b_clo }
  have U : CloQ P w K mg base CC := { fQ := _, dQ := _, oQ := ok_EqC F_equ B (m aC) cc n1 n2 it, eq := n_equ, eqF := i_equ, bQ := b_equ }
  have G_row := ok_row (P := P) (w := w) (base := base) F_row B
  have G_wrk := ok_work F_wrk F_row B (m n_row) b_row G_row
  have G_dro := ok_drow F_dro F_ply B (m n_ply) b_ply G_ply
  have G_dwo := ok_dwork F_dwo F_ply F_row F_wrk F_dro B (m n_ply) (m n_row) (m n_wrk) (m n_dro) b_ply b_row b_wrk b_dro G_ply G_row G_wrk G_dro
  have G_loz := ok_Loo2 F_loz B G_ply (m n_ply) k_ply b_ply G_yar (m n_yar) k_yar b_yar G_any (m n_any) k_any b_any G_wrk (m n_wrk) k_wrk b_wrk G_dwo (m n_dwo) k_dwo b_dwo
  have G_rnm := ok_Rnm (P := P) (w := w) (base := base) F_rnm B (PySem.W.mg_of X G aD)
  have G_rns := ok_Rns F_rns B G_rnm (m n_rnm) k_rnm b_rnm
  have G_spl := ok_Spl (P := P) (w := w) (base := base) F_spl B
  have G_wrc := ok_Wrc F_wrc B Pr
  have G_rdc := ok_Rdc F_rdc B Cl G_spl (m n_spl) k_spl b_spl G_rns (m n_rns) k_rns b_rns G_par (m n_par) k_par b_par G_loo (m n_loo) k_loo b_loo
  have G_lin := ok_Lin (P := P) (w := w) (base := base) F_lin B
  have G_ctx := ok_Ctx F_ctx B G_lin (m n_lin) k_lin b_lin
  have G_wly := ok_Wly F_wly B G_ply (m n_ply) k_ply b_ply
  have G_lcl := ok_Lcl F_lcl B G_ply (m n_ply) k_ply b_ply
  have G_tld := ok_Tld F_tld B Pr G_ctx (m n_ctx) k_ctx b_ctx G_wrc (m n_wrc) k_wrc b_wrc G_rdc (m n_rdc) k_rdc b_rdc G_mat (m n_mat) k_mat b_mat U q_wrc q_rdc
  exact ok_Law F_law B Cl Pr G_cre (m n_cre) k_cre b_cre G_yar (m n_yar) k_yar b_yar G_wly (m n_wly) k_wly b_wly G_any (m n_any) k_any b_any G_loz (m n_loz) k_loz b_loz G_lcl (m n_lcl) k_lcl b_lcl G_tld (m n_tld) k_tld b_tld G_wrc (m n_wrc) k_wrc b_wrc G_rdc (m n_rdc) k_rdc b_rdc
theorem walk {l : PySem.W.OpenLaw} {q : Program} {loose : List Str} {XP : (Str → Option Value) → Heap → Prop} {YP : World → Heap → Prop} {d : DefRec} {K : Params → PySem.W.Frag} (hn : l.most = some 63) (hdf : d.params.defaults = [])
    (hY : ∀ (w : World) (h : Heap), YP w h → (K w.params).In h)
    (F : ∀ (w : World) (mg : Str → Option Value) (fa : Addr) (h : Heap), (K w.params).In h → h.Ns mainGlobals mg → mg d.name = some (.ref fa) →
      ∃ fd : FuncData, (∀ (s : Shared) (u : Value), BindsTo s fd ⟨[u], []⟩ [("script", u)]) ∧ ∀ base : Heap, (K w.params).In base → base.Ns mainGlobals mg → FnOk l.prog w (K w.params) mg base CX0 10 fa fd ["script"] (spLaw (K w.params))) :
    PySem.W.WalkO q loose XP YP l.row.toRowW d [] (fun f vs => PySem.call f vs) :=
  L2.walk_of (n := 63) (k := 10) (x := "script") (CX := fun _ => CX0) (sp := fun w => spLaw (K w.params)) hn (by decide) hdf ⟨rfl, by decide, by decide⟩ hY F (fun _ _ a ns hl _ hS => ⟨a, ns, rfl, hS, hl, fun _ => rfl⟩) fun _ _ _ _ _ z => z
end X6
open PySem PySem.W PyProof.Rows
set_option maxRecDepth 100000 in
set_option maxHeartbeats 0 in
theorem PySem.Challenge.cw_runsdown_k46_cloths_as_text_holds : PySem.Challenge.rw_runsdown_k46_cloths_as_text.Holds := by
  w_on; o_law; k_head; (case hw => w_witness2)
  k_fill
  refine X6.walk (l := PySem.Challenge.rw_runsdown_k46_cloths_as_text) rfl rfl (fun w h Y => PySem.W.kIn_of Y) ?F
  case F =>
    intro w mg fa h KX G hmg
    refine' X6.all_mk KX G hmg ?aR ?aF ?xF ?aL ?xL ?aC ?mC ?kC ?aT ?n_ply ?n_cre ?n_int ?n_num ?n_thr ?n_wro ?n_par ?n_loo ?n_ckl ?n_ckf ?n_kid ?n_yar ?n_any ?n_mat ?n_row ?n_wrk ?n_dro ?n_dwo ?n_loz ?n_rnm ?n_rns ?n_spl ?n_wrc ?n_rdc ?n_lin ?n_ctx ?n_wly ?n_lcl ?n_tld ?n_law ?n_ini ?i_ini ?n_clo ?i_clo ?n_len ?i_len ?n_equ ?i_equ ?n_gl ?q_gl ?n_gf ?q_gf ?l_ply ?c_ply ?k_ply ?l_cre ?c_cre ?k_cre ?l_int ?c_int ?k_int ?l_num ?c_num ?k_num ?l_thr ?c_thr ?k_thr ?l_wro ?c_wro ?k_wro ?l_par ?c_par ?k_par ?l_loo ?c_loo ?k_loo ?l_ckl ?c_ckl ?k_ckl ?l_ckf ?c_ckf ?k_ckf ?l_kid ?c_kid ?k_kid ?l_yar ?c_yar ?k_yar ?l_any ?c_any ?k_any ?l_mat ?c_mat ?k_mat ?l_row ?c_row ?k_row ?l_wrk ?c_wrk ?k_wrk ?l_dro ?c_dro ?k_dro ?l_dwo ?c_dwo ?k_dwo ?l_loz ?c_loz ?k_loz ?l_rnm ?c_rnm ?k_rnm ?l_rns ?c_rns ?k_rns ?l_spl ?c_spl ?k_spl ?l_wrc ?c_wrc ?k_wrc ?l_rdc ?c_rdc ?k_rdc ?l_lin ?c_lin ?k_lin ?l_ctx ?c_ctx ?k_ctx ?l_wly ?c_wly ?k_wly ?l_lcl ?c_lcl ?k_lcl ?l_tld ?c_tld ?k_tld ?l_law ?c_law ?k_law ?l_ini ?c_ini ?k_ini ?l_clo ?c_clo ?k_clo ?l_len ?c_len ?k_len ?l_equ ?c_equ ?k_equ ?l_gl ?c_gl ?k_gl ?l_gf ?c_gf ?k_gf ?hF ?hL ?hC ?hP ?hN ?aD
    (case aR => k_is)
    (case aF => k_is)
    (case xF => (refine' X6.clse_mk ?zxe ?zxr; (case zxe => k_is); (case zxr => decide +kernel)))
    (case aL => k_is)
    (case xL => (refine' X6.clse_mk ?zxe ?zxr; (case zxe => k_is); (case zxr => decide +kernel)))
    (case aC => k_is)
    (case mC => k_is)
    (case kC => k_is)
    (case aT => k_is)
    (case n_ply => k_is)
    (case n_cre => k_is)
    (case n_int => k_is)
    (case n_num => k_is)
    (case n_thr => k_is)
    (case n_wro => k_is)
    (case n_par => k_is)
    (case n_loo => k_is)
    (case n_ckl => k_is)
    (case n_ckf => k_is)
    (case n_kid => k_is)
    (case n_yar => k_is)
    (case n_any => k_is)
    (case n_mat => k_is)
    (case n_row => k_is)
    (case n_wrk => k_is)
    (case n_dro => k_is)
    (case n_dwo => k_is)
    (case n_loz => k_is)
    (case n_rnm => k_is)
    (case n_rns => k_is)
    (case n_spl => k_is)
    (case n_wrc => k_is)
    (case n_rdc => k_is)
    (case n_lin => k_is)
    (case n_ctx => k_is)
    (case n_wly => k_is)
    (case n_lcl => k_is)
    (case n_tld => k_is)
    (case n_law => k_is)
    (case n_ini => k_is)
    (case i_ini => k_is)
    (case n_clo => k_is)
    (case i_clo => k_is)
    (case n_len => k_is)
    (case i_len => k_is)
    (case n_equ => k_is)
    (case i_equ => k_is)
    (case n_gl => k_is)
    (case q_gl => k_is)
    (case n_gf => k_is)
    (case q_gf => k_is)
    (case l_ply => k_is)
    (case c_ply => k_is)
    (case k_ply => k_is)
    (case l_cre => k_is)
    (case c_cre => k_is)
    (case k_cre => k_is)
    (case l_int => k_is)
    (case c_int => k_is)
    (case k_int => k_is)
    (case l_num => k_is)
    (case c_num => k_is)
    (case k_num => k_is)
    (case l_thr => k_is)
    (case c_thr => k_is)
    (case k_thr => k_is)
    (case l_wro => k_is)
    (case c_wro => k_is)
    (case k_wro => k_is)
    (case l_par => k_is)
    (case c_par => k_is)
    (case k_par => k_is)
    (case l_loo => k_is)
    (case c_loo => k_is)
    (case k_loo => k_is)
    (case l_ckl => k_is)
    (case c_ckl => k_is)
    (case k_ckl => k_is)
    (case l_ckf => k_is)
    (case c_ckf => k_is)
    (case k_ckf => k_is)
    (case l_kid => k_is)
    (case c_kid => k_is)
    (case k_kid => k_is)
    (case l_yar => k_is)
    (case c_yar => k_is)
    (case k_yar => k_is)
    (case l_any => k_is)
    (case c_any => k_is)
    (case k_any => k_is)
    (case l_mat => k_is)
    (case c_mat => k_is)
    (case k_mat => k_is)
    (case l_row => k_is)
    (case c_row => k_is)
    (case k_row => k_is)
    (case l_wrk => k_is)
    (case c_wrk => k_is)
    (case k_wrk => k_is)
    (case l_dro => k_is)
    (case c_dro => k_is)
    (case k_dro => k_is)
    (case l_dwo => k_is)
    (case c_dwo => k_is)
    (case k_dwo => k_is)
    (case l_loz => k_is)
    (case c_loz => k_is)
    (case k_loz => k_is)
    (case l_rnm => k_is)
    (case c_rnm => k_is)
    (case k_rnm => k_is)
    (case l_rns => k_is)
    (case c_rns => k_is)
    (case k_rns => k_is)
    (case l_spl => k_is)
    (case c_spl => k_is)
    (case k_spl => k_is)
    (case l_wrc => k_is)
    (case c_wrc => k_is)
    (case k_wrc => k_is)
    (case l_rdc => k_is)
    (case c_rdc => k_is)
    (case k_rdc => k_is)
    (case l_lin => k_is)
    (case c_lin => k_is)
    (case k_lin => k_is)
    (case l_ctx => k_is)
    (case c_ctx => k_is)
    (case k_ctx => k_is)
    (case l_wly => k_is)
    (case c_wly => k_is)
    (case k_wly => k_is)
    (case l_lcl => k_is)
    (case c_lcl => k_is)
    (case k_lcl => k_is)
    (case l_tld => k_is)
    (case c_tld => k_is)
    (case k_tld => k_is)
    (case l_law => k_is)
    (case c_law => k_is)
    (case k_law => k_is)
    (case l_ini => k_is)
    (case c_ini => k_is)
    (case k_ini => k_is)
    (case l_clo => k_is)
    (case c_clo => k_is)
    (case k_clo => k_is)
    (case l_len => k_is)
    (case c_len => k_is)
    (case k_len => k_is)
    (case l_equ => k_is)
    (case c_equ => k_is)
    (case k_equ => k_is)
    (case l_gl => k_is)
    (case c_gl => k_is)
    (case k_gl => k_is)
    (case l_gf => k_is)
    (case c_gf => k_is)
    (case k_gf => k_is)
    (case hF => kernel_rfl)
    (case hL => kernel_rfl)
    (case hC => kernel_rfl)
    (case hP => kernel_rfl)
    (case hN => kernel_rfl)
    (case aD => k_is)
