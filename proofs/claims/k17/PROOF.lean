import PyProof.Rows.All
import Wide.All
import OpenK.AllK
import Wide.FinOn
import HandS.ForExc
import HandS.HotCalls
import HandS.ExcInit
import HandS.ExcIs
import HandS.ExcField
import KE.KIsAll
import PyProof.Rows.CountFlat
import HandS.ForMost
import HandS.Wide
import HandS.Walk
import HandS.IsInst
import HandS.Comp
import HandS.Conv
import HandS.Zip
import HandS.Strs
import HandS.TupAny
import HandS.SortInts
import HandS.Style
import HandS.Iter
import HandS.Property
import HandS.ExcCtx
import OpenK.KOps
import HandS.MakeKwOnly
import HandS.Ends
import PyProof.ReprRoads
import HandS.OwnEq
import HandS.Set
import HandS.SetBool
import PyProof.Rows.SortStr
import PyProof.Rows.SortShellAny
import HandS.Base
import HandS.Call
import HandS.List
import HandS.RevRange
import HandS.RaiseMore
import PyProof.ReprLen
import PyProof.CallStr
import HandS.SetFor
import HandS.Rev
import OpenK.KMeth
import HandS.Deep
import HandS.Sort
import PySem.Challenge.RW_runsdown_k17_seen_runs_of_greater_cloths
set_option Elab.async false
set_option linter.all false
set_option maxRecDepth 100000
set_option maxHeartbeats 4000000
/-! An own error class over ValueError, called with positional values and keywords: the model's own steps. -/
namespace MXa
open PySem PySem.W PySem.Calls PyProof.Rows PySem.HandSPX
open Builtin Builtin.ObjectAttr
section
variable {M : Model} {prog : Program} {w : World} {A : Around} {E : Value → Shared → Prop} {R : Result → Shared → Prop} {h : Heap} {g : Array GenState} {d : Drawn} {t : Nat} {os : OsState}
variable {nm q : Str} {C N : Addr} {bs bm bmB : List Value} {hdct : Bool} {sn : List Str} {sub : List Value} {ab : Bool} {col : Option Bool} {dd : Option Addr} {k0 k1 k2 k3 k5 : Option Value} {B newId initId : String}

theorem newCheck (F : ExcBaseFacts B newId initId bmB) (hT : ∀ X : String, bm.contains (.type X) = bmB.contains (.type X)) {ps : List Value} {kw : List (Str × Value)} {Q : Unit → Shared → Prop}
    (cl : h.get? C = some (excClassObj nm q C N bs bm hdct sn sub ab col dd k0 k1 k2 k3 k5 newId)) (go : Q () ⟨h, g, d, t, os⟩) : wpAny M A (checkBuiltinCall newId ⟨.ref C :: ps, kw⟩) Q E ⟨h, g, d, t, os⟩ := by
  have has : (Value.ref C :: bm).contains (.type B) = true := by
    rw [List.contains_cons, hT, F.hasB, Bool.or_true]
  have star := F.noStar
  simp only [checkBuiltinCall, F.newKind, F.newSplit, F.newRow]
  repeat (first
    | refine wpAny_loadPart_at cl ?_
    | (refine wpAny_isSubtype_exc cl ?_; rw [has])
    | refine wpAny_staticBase_exc cl ?_
    | refine wpAny_madeBy_exc cl ?_
    | simp only [bne_self_eq_false, Bool.false_eq_true, if_false]
    | wp_step)
  all_goals first | exact go | trace_state

theorem newBody (F : ExcBaseFacts B newId initId bmB) (hT : ∀ X : String, bm.contains (.type X) = bmB.contains (.type X)) {ps : List Value} {kw : List (Str × Value)}
    (cl : h.get? C = some (excClassObj nm q C N bs bm hdct sn sub ab col dd k0 k1 k2 k3 k5 newId)) (short : ps.length ≤ sizeLine)
    (go : R (.ok (.ret (.ref (h.objs.size + 1)))) ⟨(h.push (W.kdv_tup ps)).push (excO C h.objs.size), g, d, t, os⟩) :
    codeAny (model prog w) A (.builtin newId ⟨.ref C :: ps, kw⟩) R ⟨h, g, d, t, os⟩ := by
  have es := F.ends
  have yB : (Value.ref C :: bm).contains (.type B) = true := by
    rw [List.contains_cons, hT, F.hasB, Bool.or_true]
  have nA : (Value.ref C :: bm).contains (.type "AttributeError") = false := by
    rw [List.contains_cons, hT, F.noAttr]
    rfl
  have nN : (Value.ref C :: bm).contains (.type "NameError") = false := by
    rw [List.contains_cons, hT, F.noName]
    rfl
  refine codeAny_builtinAt F.entry ?_
  unfold Builtin.«BaseException.__new__»
  refine PySem.wpAt_bind ?_
  show PySem.wpAt _ _ _ (stack >>= _) _ _ _
  refine PySem.wpAt_bind (PySem.wpAt_stack fun z zs => PySem.wpAt_of_wpAny ?_)
  wp_walk
  refine PySem.wpAt_of_wpAny ?_
  rw [F.owner]
  repeat (first
    | with_reducible refine wpAny_madeHere_exc F.canon cl ?_
    | with_reducible refine wpAny_loadPart_at cl ?_
    | (with_reducible refine wpAny_isSubtype_exc cl ?_; first | rw [yB] | rw [nA] | rw [nN])
    | wp_step)
  show R _ _
  rw [Heap.size_push]
  exact go

theorem typeCall (F : ExcBaseFacts B newId initId bmB) (hT : ∀ X : String, bm.contains (.type X) = bmB.contains (.type X)) {ps : List Value} {kw : List (Str × Value)} {fI : Addr} {Q : Fin → Shared → Prop}
    (cl : h.get? C = some (excClassObj nm q C N bs bm hdct sn sub ab col dd k0 k1 k2 k3 k5 newId)) (short : ps.length ≤ sizeLine)
    (fi : W.Looks (model prog w) h (typeLookup (.ref C) "__init__") (some (.ref fI))) (bi : ∀ self, W.Looks (model prog w) h (bindSpecial (.ref fI) self) (.ref fI, [self]))
    (go : codeAny (model prog w) A (.call (.ref fI) ⟨.ref (h.objs.size + 1) :: ps, kw⟩)
      (fun r s' => match r with | .ok (.ret v) => v = .none ∧ Q (.done (.ret (.ref (h.objs.size + 1)))) s' | .ok _ => False | .error e => E e s')
      ⟨(h.push (W.kdv_tup ps)).push (excO C h.objs.size), g, d, t, os⟩) :
    wpAny (model prog w) A (Builtin.«type.__call__» ⟨.ref C :: ps, kw⟩) Q E ⟨h, g, d, t, os⟩ := by
  repeat (first
    | with_reducible refine wpAny_loadPart_at cl ?_
    | with_reducible refine wpAny_madeBy_exc cl ?_
    | wp_step)
  refine codeAny_call_builtin_code (Code.quiet_builtin _ F.quiet) (newCheck F hT cl ?_)
  refine newBody F hT cl short ?_
  show wpAny _ _ _ _ _ _
  have up : ∀ b o, h.get? b = some o → ((h.push (W.kdv_tup ps)).push (excO C h.objs.size)).get? b = some o := fun b o e =>
    Heap.get?_push_of_some _ (Heap.get?_push_of_some _ e)
  have cl1 := up _ _ cl
  have at1 : ((h.push (W.kdv_tup ps)).push (excO C h.objs.size)).get? (h.objs.size + 1) = some (excO C h.objs.size) := by
    heap_get
  have yC : (Value.ref C :: bm).contains (.ref C) = true := by simp
  have fi1 := fi.keeps up
  have bi1 := (bi (.ref (h.objs.size + 1))).keeps up
  unfold isInstance
  repeat (first
    | with_reducible refine wpAny_loadPart_at at1 ?_
    | (with_reducible refine wpAny_isSubtype_exc cl1 ?_; rw [yC])
    | wp_step)
  show wpAny _ _ (typeLookup (.ref C) _) _ _ _
  refine fi1.at (wpAny_holding (wpAny_bind (bi1.at (wpAny_bind (wpAny_call (codeAny_mono go fun r s' z => ?_))))))
  rcases r with e | (v | _ | _ | _) <;> first | exact z | exact z.elim | skip
  obtain ⟨rfl, z⟩ := z
  first
    | exact wpAny_pure (wpAny_pure z)
    | (wp_walk; exact z)

theorem typeCallCheck {ps : List Value} {kw : List (Str × Value)} {Q : Unit → Shared → Prop} (cl : h.get? C = some (excClassObj nm q C N bs bm hdct sn sub ab col dd k0 k1 k2 k3 k5 newId))
    (go : Q () ⟨h, g, d, t, os⟩) : wpAny M A (checkBuiltinCall "type.__call__" ⟨.ref C :: ps, kw⟩) Q E ⟨h, g, d, t, os⟩ := by
  have f3 := tc_sub
  have ty : (⟨h, g, d, t, os⟩ : Shared).TypeIs (.ref C) "type" := ⟨_, cl, rfl⟩
  simp only [checkBuiltinCall, tc_kind, tc_split]
  repeat (any_goals (first
    | assumption
    | with_reducible refine wpAny_loadPart_at cl ?_
    | with_reducible refine wpAny_onRaise ?_
    | with_reducible refine wpAny_map ?_
    | wp_step))
  all_goals trace_state

theorem callOwn (F : ExcBaseFacts B newId initId bmB) (hT : ∀ X : String, bm.contains (.type X) = bmB.contains (.type X)) {ps : List Value} {kw : List (Str × Value)} {fI : Addr}
    (cl : h.get? C = some (excClassObj nm q C N bs bm hdct sn sub ab col dd k0 k1 k2 k3 k5 newId)) (short : ps.length ≤ sizeLine)
    (fi : W.Looks (model prog w) h (typeLookup (.ref C) "__init__") (some (.ref fI))) (bi : ∀ self, W.Looks (model prog w) h (bindSpecial (.ref fI) self) (.ref fI, [self]))
    (go : codeAny (model prog w) (A.under (.builtin "type.__call__" ⟨.ref C :: ps, kw⟩)) (.call (.ref fI) ⟨.ref (h.objs.size + 1) :: ps, kw⟩) (W.InitBack (h.objs.size + 1) R)
      ⟨(h.push (W.kdv_tup ps)).push (excO C h.objs.size), g, d, t, os⟩) :
    codeAny (model prog w) A (.call (.ref C) ⟨ps, kw⟩) R ⟨h, g, d, t, os⟩ := by
  have f1 := tc_lookup
  have f2 := tc_bind (.ref C)
  have ty : (⟨h, g, d, t, os⟩ : Shared).TypeIs (.ref C) "type" := ⟨_, cl, rfl⟩
  refine codeAny_of_tree ?_
  show wpAny _ _ (callAny (.ref C) _) _ _ _
  repeat (any_goals (first
    | assumption
    | with_reducible refine wpAny_loadPart_at cl ?_
    | wp_step))
  refine ⟨rfl, ?_⟩
  refine codeAny_call_builtin_at (Code.quiet_builtin _ (by decide +kernel)) entry_typeCall (typeCallCheck cl (typeCall F hT cl short fi bi ?_))
  refine codeAny_mono go fun r s' z => ?_
  rcases r with e | (v | _ | _ | _) <;> exact z
end
end MXa
/-! Own error classes with one inherited __init__ that stores one field: made, raised, read, asked. -/
namespace MXb
open PySem PySem.Spec PyProof.Rows L2
abbrev St := L2.St
/-- what the written part says of an error class at C whose __init__ stands at fI and stores the field fl -/
structure XC (K : PySem.W.Frag) (mg : Str → Option Value) (fI C : Addr) (nm fl : Str) : Prop where
  gC : mg nm = some (.ref C)
  ox : OexC K C
  ini : PySem.W.findIn K (.ref C) "__init__" = some (some (.ref fI))
  tyI : PySem.W.typeIn K (.ref fI) = some (.type "function")
  noF : PySem.W.findIn K (.ref C) fl = some none
  xf : XfC K C
  ec : ExcC K C
/-- __init__(self, fl): self.fl = fl -/
def spInit (K : PySem.W.Frag) (fl : Str) : Sp := fun vs H Q _ => ∃ (e C : Addr) (y : V), vs = [.ref e, y] ∧ OexC K C ∧ PySem.W.findIn K (.ref C) fl = some none ∧ H e = some (exo e C none) ∧
  ∀ d, H d = none → d ≠ e → Q .non (upd (upd H d (exd d [(fl, y)])) e (exo e C (some d)))
/-- how the one value comes to __init__: positional (kw none), or by its name -/
structure Bind1 (K : PySem.W.Frag) (fd : FuncData) (fl : Str) : Prop where
  pos : ∀ (s : Shared) (a u : Value), K.In s.heap → BindsTo s fd ⟨[a, u], []⟩ ((["self", fl] : List Str).zip [a, u])
  kw : ∀ (s : Shared) (a u : Value), K.In s.heap → BindsTo s fd ⟨[a], [(fl, u)]⟩ ((["self", fl] : List Str).zip [a, u])
/-- the abstract heap behind C(y): the new error at a, its dict at d -/
def hMade (H : Hp) (a d C : Addr) (fl : Str) (y : V) : Hp := upd (upd (upd H a (exo a C none)) d (exd d [(fl, y)])) a (exo a C (some d))
section
variable {X : Cx} {fI C : Addr} {nm fl : Str} {k : Nat} {fd : FuncData}
theorem run_x {pins : List (Addr × Obj)} {σ : St} {H : Hp} {s : Shared} {y : V} {u : Value} {ps : List Value} {kw : List (Str × Value)} {R : Value → Shared → Prop} (T : XC X.K X.mg fI C nm fl)
    (F1 : FnOk X.prog X.w X.K X.mg X.base CX0 k fI fd ["self", fl] (spInit X.K fl)) (hr : Room (k + 1) X.A) (I : Inv X pins σ H s) (r : RelV y u) (short : ps.length ≤ sizeLine)
    (bi : ∀ (s : Shared) (a : Value), X.K.In s.heap → BindsTo s fd ⟨a :: ps, kw⟩ ((["self", fl] : List Str).zip [a, u]))
    (fin : ∀ (s2 : Shared) (d : Addr), H (s.heap.objs.size + 1) = none → H d = none → d ≠ s.heap.objs.size + 1 → s2.os = s.os → AllBare s2.gens →
      Inv X pins σ (hMade H (s.heap.objs.size + 1) d C fl y) s2 →
      Un (frs X.stack) [] (upd H (s.heap.objs.size + 1) (exo (s.heap.objs.size + 1) C none)) (hMade H (s.heap.objs.size + 1) d C fl y) ((s.heap.push (PySem.W.kdv_tup ps)).push (PySem.HandSPX.excO C s.heap.objs.size)) s2.heap →
      HOk X.prog X.w (hMade H (s.heap.objs.size + 1) d C fl y) s2.heap → R (.ref (s.heap.objs.size + 1)) s2) :
    wpAny (model X.prog X.w) X.A (call (.ref C) ps kw) R X.xe s := by
  obtain ⟨n0, q0, N0, bs0, bm, sn0, sub0, ab0, col0, dd0, k0, k1, k2, k3, k5, hC, hbm⟩ := T.ox.cls
  obtain ⟨hp, g, dr, tk, os⟩ := s
  have above : hp.objs.size ≤ hp.objs.size + 1 := Nat.le_succ _
  have free : H (hp.objs.size + 1) = none := I.hok.fresh above
  have up : ∀ b o, hp.get? b = some o → ((hp.push (PySem.W.kdv_tup ps)).push (PySem.HandSPX.excO C hp.objs.size)).get? b = some o := fun b o e =>
    Heap.get?_push_of_some _ (Heap.get?_push_of_some _ e)
  have at1 : ((hp.push (PySem.W.kdv_tup ps)).push (PySem.HandSPX.excO C hp.objs.size)).get? (hp.objs.size + 1) = some (PySem.HandSPX.excO C hp.objs.size) := by
    heap_get
  have J : Inv X pins σ (upd H (hp.objs.size + 1) (exo (hp.objs.size + 1) C none)) ⟨(hp.push (PySem.W.kdv_tup ps)).push (PySem.HandSPX.excO C hp.objs.size), g, dr, tk, os⟩ :=
    Inv.laid (I := I) (t' := tk) (a := hp.objs.size + 1) (o := exo (hp.objs.size + 1) C none) (h' := (hp.push (PySem.W.kdv_tup ps)).push (PySem.HandSPX.excO C hp.objs.size)) up above (exo_ok at1)
  have rr : Vals [V.ref (hp.objs.size + 1), y] [Value.ref (hp.objs.size + 1), u] := .cons rfl (.cons r .nil)
  refine wpAny_call (MXa.callOwn F.excBase_ValueError (fun Y => PySem.HandSPX.refsVE_contains Y bm hbm) (I.kIn _ _ hC) short (PySem.W.looks_findIn I.kIn T.ini) (fun self => PySem.W.bind_fn I.kIn self T.tyI)
    (codeAny_mono (F1.run _ X.stack _ _ ⟨Value.ref (hp.objs.size + 1) :: ps, kw⟩ [Value.ref (hp.objs.size + 1), u] [V.ref (hp.objs.size + 1), y]
      (fun v H2 => v = .non ∧ ∃ d, H d = none ∧ d ≠ hp.objs.size + 1 ∧ H2 = hMade H (hp.objs.size + 1) d C fl y) E0 (hr.make C ps kw) (J.env0.make C ps kw) (bi _ _ J.kIn) rr
      ⟨hp.objs.size + 1, C, y, rfl, T.ox, T.noF, upd_same, fun d nd ne => ⟨rfl, d, by rw [upd_ne ne] at nd; exact nd, ne, rfl⟩⟩) fun r2 s2 z => ?_))
  cases r2 with
  | error er => exact z.elim
  | ok fl2 =>
    cases fl2 with
    | ret v2 =>
      obtain ⟨v, H', I3, rv, ev, d, nd, ne, rfl⟩ := J.after z
      obtain ⟨v', H2', os2, bare2, un2, hok2, rv', ev', d', nd', ne', eH⟩ := z
      subst ev
      refine ⟨rv, ?_⟩
      subst eH
      have J2 := J.after (Q := fun v H2 => v = v' ∧ H2 = hMade H (hp.objs.size + 1) d' C fl y) ⟨v', _, os2, bare2, un2, hok2, rv', rfl, rfl⟩
      obtain ⟨_, _, I4, _, rfl, rfl⟩ := J2
      exact fin s2 d' free nd' ne' os2 bare2 I4 un2 hok2
    | next => exact False.elim z
    | brk => exact False.elim z
    | cont => exact False.elim z
end
end MXb
/-! The class of an error that has a dict of its own; isinstance of it. -/
namespace MXc
open PySem PySem.W PySem.Spec PySem.Calls PyProof.Rows
section
variable {prog : Program} {w : World} {A : Around} {E : Value → Shared → Prop} {s : Shared} {K : Frag} {x D : Addr} {ox : Obj} {od : Option Obj}
theorem found {C : Addr} {name : Str} {a g : Value} (c1 : (clsIn K C).isSome = true) (c2 : findIn K (.ref C) name = some (some a)) (c3 : specialIn K a "__get__" = some (some g)) (c4 : takesIn K a = some true) : findObj K C od name = some (.bind g a) := by
  obtain ⟨cd, e⟩ := Option.isSome_iff_exists.mp c1
  unfold findObj
  rw [e, Option.bind_some, c2, Option.bind_some]
  simp [c3, c4]
theorem askClass {Q : Option Value → Shared → Prop} (T : L2.ExcC K D) (X : K.In s.heap) (I : InstAt s.heap x ox D od) (go : Q (some (.ref D)) { s with toks := s.toks + 1 }) :
    wpAny (model prog w) A (getAttr? (.ref x) "__class__") Q E s := by
  have fo : findObj K D od "__class__" = some (.bind (.builtin "getset_descriptor.__get__") (.builtin "object.__class__")) :=
    found (by obtain ⟨cd, e, _⟩ := any_some T.hd; rw [e]; rfl) T.ha T.hn T.ht
  obtain ⟨hp, g, d, t, os⟩ := s
  have a0 := I.type (M := model prog w)
  have a1 := looks_findIn (M := model prog w) X T.hg
  have a2 := looks_findIn (M := model prog w) X T.hk
  have a3 := looks_find (M := model prog w) X I fo
  have below : Looks (model prog w) hp (isInstance (.ref x) (.type "BaseException")) true :=
    a0.andThen (looks_subIn X T.hs)
  have z2 : (Value.builtin "BaseException.__getattribute__" == Value.builtin "object.__getattribute__") = false := by
    decide +kernel
  have z1 : (onTheHeap (Value.ref D) && Value.builtin "BaseException.__getattribute__" == Value.builtin "object.__getattribute__") = false := by
    rw [z2]
    rfl
  have z0 : (false && onTheHeap (Value.builtin "BaseException.__getattribute__")) = false := rfl
  unfold getAttr? getAttrBy? getAttrBy
  refine wpAny_bind (wpAny_mkText (wpAny_bind (wpAny_attempt (wpAny_holding (wpAny_bind (a0.at (wpAny_bind (a1.at ?_))))))))
  show wpAny _ _ (if (onTheHeap (Value.ref D) && Value.builtin "BaseException.__getattribute__" == Value.builtin "object.__getattribute__") = true then _ else _) _ _ _
  rw [z1]
  rw [if_neg Bool.false_ne_true]
  unfold getAttrByItsOwn hookBefore
  refine wpAny_bind ?_
  rw [if_pos (show onTheHeap (Value.ref D) = true from rfl)]
  refine a2.at (wpAny_bind (wpAny_attempt (wpAny_holding ?_)))
  unfold callGetattribute
  rw [z0]
  rw [if_neg Bool.false_ne_true]
  unfold boundAndCalled
  rw [PySem.F.excAttr_ValueError.ga.bind (.ref x)]
  refine wpAny_bind (wpAny_pure ?_)
  show wpAny _ _ (call (.builtin "BaseException.__getattribute__") [.ref x, .str "__class__" t]) _ _ _
  refine wpAny_call (codeAny_call_builtin PySem.F.excAttr_ValueError.ga.plain PySem.F.entry_bexc_ga ?_)
  refine @check_slot (model prog w) _ _ ⟨hp, g, d, t + 1, os⟩ "BaseException.__getattribute__" "BaseException" "__getattribute__" (.ref x)
    [.str "__class__" t] [] _ (by decide +kernel) (by decide +kernel) below (PySem.F.args_bexc_ga (.ref x) (.str "__class__" t)) ?_
  unfold Builtin.«object.__getattribute__»
  refine wpAny_bind (wpAny_of_eq (a := ((Value.ref x : Value), [Value.str "__class__" t])) (by first | rfl | (simp only [slotArgs]; rfl)) ?_)
  refine wpAny_bind (wpAny_pure (wpAny_bind (a0.at (wpAny_bind (a3.at ?_)))))
  show wpAny _ _ (holding [Value.builtin "object.__class__"] (call (.builtin "getset_descriptor.__get__") [.builtin "object.__class__", .ref x, .ref D]) >>= ret) _ _ _
  refine wpAny_bind (wpAny_holding (wpAny_call (class_get (s := ⟨hp, g, d, t + 1, os⟩) (ox := ox) (od := od) X I T.hm (wpAny_pure ?_))))
  show wpAny _ _ (handedOut (.ref D)) _ _ _
  rw [handedOut_of (v := .ref D) rfl]
  first
    | exact wpAny_pure (wpAny_pure go)
    | exact wpAny_pure go
    | exact wpAny_pure (wpAny_bind (wpAny_pure (wpAny_pure go)))
theorem kit_err (T : L2.ExcC K D) : KitX K (.ref x) (.ref D) (fun h => InstAt h x ox D od) := by
  obtain ⟨cdD, hcD, _⟩ := any_some T.hd
  have at0 : ∃ c' d' cd' sl', K.lookup D = some ⟨c', d', .cls cd', sl'⟩ := by
    unfold clsIn at hcD
    split at hcD
    · rename_i c' d' cd' sl' ho
      exact ⟨_, _, _, _, ho⟩
    · cases hcD
  obtain ⟨c', d', cd', sl', ho⟩ := at0
  refine ⟨fun _ _ _ I => I.type, fun _ _ X _ => ?_, fun h tp dd its n sl X htp => ?_, fun X I k => askClass T X I k⟩
  · intro A' Q' E' s' k q
    unfold isType loadHead
    exact wpAny_bind (wpAny_loadPart (k _ _ (X _ _ ho)) (wpAny_pure q))
  · refine Bool.eq_false_iff.mpr fun q => ?_
    obtain rfl : D = tp := Value.ref.inj (beq_iff_eq.mp q)
    have z := (X _ _ ho).symm.trans htp
    cases z
end
end MXc
/-! Readings and rules: C(e) raised, C(e) and C(fl = e) as values, their field, a def that is handed the error of an except suite, isinstance there. -/
namespace MXd
open PySem PySem.Spec PyProof.Rows L2 MXb
abbrev St := L2.St
/-- raise C(e): the way out -/
def tMk1 (C : Addr) (fl : Str) (te : TE) : St → Hp → XK → Prop := fun σ H Q => te σ H fun v H1 => ∀ d, H1 d = none → Q (.ref C) (some d) (upd H1 d (.xd [(fl, v)]))
/-- C(e) as a value: the new error at a, its dict at d -/
def tMkV (C : Addr) (fl : Str) (te : TE) : TE := fun σ H Q => te σ H fun v H1 => ∀ a d, H1 a = none → H1 d = none → d ≠ a → Q (.ref a) (hMade H1 a d C fl v)
def tMkK (C : Addr) (fl : Str) (tk : TA) : TE := fun σ H Q => tk σ H fun vs H1 => ∃ v, vs = [v] ∧ ∀ a d, H1 a = none → H1 d = none → d ≠ a → Q (.ref a) (hMade H1 a d C fl v)
/-- e.fl, e an error that was just made -/
def tFx (K : PySem.W.Frag) (fl : Str) (te : TE) : TE := fun σ H Q => te σ H fun x H1 => ∃ (a C d : Addr) (fs : List (Str × V)) (v : V), x = .ref a ∧ XfC K C ∧ PySem.W.findIn K (.ref C) fl = some none ∧
  H1 a = some (exo a C (some d)) ∧ H1 d = some (exd d fs) ∧ fs.lookup fl = some v ∧ Q v H1
theorem made_end {H : Hp} {a d C : Addr} {fl : Str} {y : V} {o : HO} (na : H a = none) (ne : d ≠ a) : upd (del (hMade H a d C fl y) a) d o = upd H d o := by
  funext b
  by_cases hd : b = d
  · rw [hd, upd_same, upd_same]
  · rw [upd_ne hd, upd_ne hd]
    by_cases ha : b = a
    · rw [ha, del_same, na]
    · unfold hMade
      rw [del_ne ha, upd_ne ha, upd_ne hd, upd_ne ha]
theorem made_a {H : Hp} {a d C : Addr} {fl : Str} {y : V} : hMade H a d C fl y a = some (exo a C (some d)) := upd_same
theorem made_d {H : Hp} {a d C : Addr} {fl : Str} {y : V} (ne : d ≠ a) : hMade H a d C fl y d = some (exd d [(fl, y)]) := by
  unfold hMade
  rw [upd_ne ne, upd_same]
theorem made_o {H : Hp} {a d C : Addr} {fl : Str} {y : V} {b : Addr} {o : HO} (na : H a = none) (nd : H d = none) (e : H b = some o) : hMade H a d C fl y b = some o := by
  unfold hMade
  rw [upd_ne (ne_of_none e na), upd_ne (ne_of_none e nd), upd_ne (ne_of_none e na)]
  exact e
section
variable {X : Cx} {fI C : Addr} {nm fl : Str} {k : Nat} {fd : FuncData} {e : Expr} {te : TE} {tk : TA} {p pos kpos : Pos}
theorem pmk1 (T : XC X.K X.mg fI C nm fl) (F1 : FnOk X.prog X.w X.K X.mg X.base CX0 k fI fd ["self", fl] (spInit X.K fl)) (bd : Bind1 X.K fd fl) (hr : Room (k + 1) X.A) (hg : Gl X nm) (he : PE X e te)
    (hdb : (nm == ("__debug__" : Str)) = false := by decide) (hst : starEach [e] X.env = (false, eval e X.env) :: starEach [] X.env := by rfl) (hpl : (backTo pos (starEach [] X.env)).any (·.1) = false := by rfl) :
    L2N.PMk X (.Call (.Name nm p) [e] [] pos) (tMk1 C fl te) := by
  intro pins s σ H Q I h
  refine wpAny_Call_Name_kw (ld_glob I hg T.gC ?_ hdb)
  have ha : PA X [e] (tCons te tNil) := pa_cons he pa_nil hst
  refine PySem.W.callWith_K (h₀ := X.base) I.ok.mod.kin T.ox.kC (thn (ha.run pos pins s σ H (fun vs H1 => ∃ v, vs = [v] ∧ ∀ d, H1 d = none → Q (.ref C) (some d) (upd H1 d (.xd [(fl, v)])))
    I (show te σ H _ from ?_)) fun us s1 ⟨vs, H1, I1, r1, v, ev, q1⟩ => ⟨I1.kIn, ?_⟩) hst hpl
  · have imp : ∀ {Q1 Q2 : VK}, Q1 = Q2 → te σ H Q1 → te σ H Q2 := fun e z => e ▸ z
    refine imp ?_ h
    funext v H1
    exact propext ⟨fun z => ⟨v, rfl, z⟩, fun ⟨v', e', z⟩ => by cases e'; exact z⟩
  · subst ev
    obtain ⟨u, rfl, ru⟩ := r1.one
    refine run_x T F1 hr I1 ru (show 1 ≤ sizeLine by rw [sizeLine_eq]; decide) (fun s a X => bd.pos s a u X) fun s2 d na nd ne os2 bare2 I4 un2 hok2 => ?_
    obtain ⟨hp, g, dr, t, os⟩ := s1
    obtain ⟨h2, g2, d2, t2, os'⟩ := s2
    have up : ∀ b o, hp.get? b = some o → ((hp.push (PySem.W.kdv_tup [u])).push (PySem.HandSPX.excO C hp.objs.size)).get? b = some o := fun b o e =>
      Heap.get?_push_of_some _ (Heap.get?_push_of_some _ e)
    obtain ⟨t0, G, J, kG, ge, hoe, na2⟩ := mk_end0 (d2 := d2) (t2 := t2) I1 (Nat.le_succ _) up un2 hok2 os2 bare2 made_a (made_d ne) nd
    have q2 := q1 d nd
    rw [← made_end (C := C) (fl := fl) (y := v) na ne] at q2
    exact ⟨hp.objs.size + 1, _, _, ⟨G, g2, d2, t2, os'⟩, _, .ref C, some d, rfl, J, kG, ge, hoe, ⟨rfl, rfl, fun vs e => by cases e; rfl⟩, rfl, rfl, na2, rfl, bare2, raises_own T.ox.exC T.ox.tyC, q2⟩
theorem pe_mkv (T : XC X.K X.mg fI C nm fl) (F1 : FnOk X.prog X.w X.K X.mg X.base CX0 k fI fd ["self", fl] (spInit X.K fl)) (bd : Bind1 X.K fd fl) (hr : Room (k + 1) X.A) (hg : Gl X nm) (he : PE X e te)
    (hdb : (nm == ("__debug__" : Str)) = false := by decide) (hst : starEach [e] X.env = (false, eval e X.env) :: starEach [] X.env := by rfl) (hpl : (backTo pos (starEach [] X.env)).any (·.1) = false := by rfl) :
    PE X (.Call (.Name nm p) [e] [] pos) (tMkV C fl te) := by
  refine ⟨fun pins s σ H Q I h => ?_⟩
  refine wpAny_Call_Name_kw (ld_glob I hg T.gC ?_ hdb)
  have ha : PA X [e] (tCons te tNil) := pa_cons he pa_nil hst
  refine PySem.W.callWith_K (h₀ := X.base) I.ok.mod.kin T.ox.kC (thn (ha.run pos pins s σ H (fun vs H1 => ∃ v, vs = [v] ∧ ∀ a d, H1 a = none → H1 d = none → d ≠ a → Q (.ref a) (hMade H1 a d C fl v))
    I (show te σ H _ from ?_)) fun us s1 ⟨vs, H1, I1, r1, v, ev, q1⟩ => ⟨I1.kIn, ?_⟩) hst hpl
  · have imp : ∀ {Q1 Q2 : VK}, Q1 = Q2 → te σ H Q1 → te σ H Q2 := fun e z => e ▸ z
    refine imp ?_ h
    funext v H1
    exact propext ⟨fun z => ⟨v, rfl, z⟩, fun ⟨v', e', z⟩ => by cases e'; exact z⟩
  · subst ev
    obtain ⟨u, rfl, ru⟩ := r1.one
    exact run_x T F1 hr I1 ru (show 1 ≤ sizeLine by rw [sizeLine_eq]; decide) (fun s a X => bd.pos s a u X) fun s2 d na nd ne os2 bare2 I4 un2 hok2 => ⟨V.ref (s1.heap.objs.size + 1), _, I4, rfl, q1 _ d na nd ne⟩
theorem pe_mkK (T : XC X.K X.mg fI C nm fl) (F1 : FnOk X.prog X.w X.K X.mg X.base CX0 k fI fd ["self", fl] (spInit X.K fl)) (bd : Bind1 X.K fd fl) (hr : Room (k + 1) X.A) (hg : Gl X nm) {kws : List Keyword} (hk : PK X kws tk)
    (hall : (backToKw pos (keywordEach kws X.env)).all (·.1.isSome) = true := by rfl) (hks : (backToKw pos (keywordEach kws X.env)).filterMap (·.1) = [fl] := by rfl)
    (hdb : (nm == ("__debug__" : Str)) = false := by decide)
    (hpl : ((backTo pos (starEach [] X.env)).any (·.1) || (backToKw pos (keywordEach kws X.env)).any (·.1.isNone)) = false := by rfl) :
    PE X (.Call (.Name nm p) [] kws pos) (tMkK C fl tk) := by
  refine ⟨fun pins s σ H Q I h => ?_⟩
  refine wpAny_Call_Name_kw (ld_glob I hg T.gC ?_ hdb)
  refine PySem.W.callWith_KW0 (h₀ := X.base) I.ok.mod.kin T.ox.kC hall ?_ hpl
  refine thn (hk.run pos pins s σ H _ I h) fun ws s2 ⟨zs, H2, I2, rz, v, ev, q2⟩ => ⟨I2.kIn, ?_⟩
  subst ev
  obtain ⟨u, rfl, ru⟩ := rz.one
  rw [hks]
  exact run_x (ps := []) (kw := [(fl, u)]) T F1 hr I2 ru (by rw [sizeLine_eq]; decide) (fun s a X => bd.kw s a u X) fun s3 d na nd ne os2 bare2 I4 un2 hok2 => ⟨V.ref (s2.heap.objs.size + 1), _, I4, rfl, q2 _ d na nd ne⟩
theorem pe_fx (he : PE X e te) (hb : attributeBase e fl X.env (eval e X.env) = eval e X.env := by rfl) : PE X (.Attribute e fl pos) (tFx X.K fl te) := by
  refine ⟨fun pins s σ H Q I h => ?_⟩
  refine attr_of hb (thn (he.run pins s σ H _ I h) fun u s1 hh => ?_)
  obtain ⟨x, H1, I1, rx, a, C, d, fs, v, rfl, T, no, ea, ed, l, q⟩ := hh
  obtain rfl : u = Value.ref a := rx
  obtain ⟨t1, ho⟩ := exo_at I1.hok ea
  obtain ⟨mA, ns, rel⟩ := exd_at I1.hok ed
  obtain ⟨od, hod, lk⟩ := lookIn_ns ns
  obtain ⟨u, hu, ru⟩ := RelO.some_of (v := v) (o := mA fl) (by rw [← l]; exact rel fl)
  have J : PySem.W.InstAt s1.heap a { cls := .ref C, dict := some d, data := .fields #[.ref t1, .none, .none, .none, .bool false, .none] } C (some od) := ⟨ho, rfl, rfl, hod⟩
  exact HandSPX.exc_get I1.kIn J T.ga T.gg T.exC (PySem.W.findObj_own T.hdC no rfl (by rw [lk, hu])) (handed_of ru) ⟨v, H1, I1.tok _, ru, q⟩
end
end MXd
/-! A def that an except suite hands its error to. -/
namespace MXe
open PySem PySem.Spec PyProof.Rows L2 L2H
abbrev St := L2.St
/-- a pinned error of the class at C, its dict at d -/
structure ErrP (C d : Addr) (p : Addr × Obj) : Prop where
  z : Zc (.ref C) (some d) p.2
  fs : ∃ vs, p.2.data = .fields vs
/-- a def's promise where p is such an error: sp is told its place, its class, its dict -/
structure FnE (P : Program) (w : World) (K : PySem.W.Frag) (mg : Str → Option Value) (base : Heap) (k : Nat) (f : Addr) (fd : FuncData) (ps : List Str) (sp : Addr → Addr → Addr → Sp) : Prop where
  len : ∀ a C d vs H Q E, sp a C d vs H Q E → vs.length = ps.length
  run : ∀ (A : Around) (outer : List Env) (s : Shared) (H : Hp) (args : Args) (us : List Value) (vs : List V) (Q : VK) (E : XK) (p : Addr × Obj) (C d : Addr), RoomH k A → ErrP C d p → PinOk outer H s p →
    Env0 P w K mg base A outer s H → BindsTo s fd args (ps.zip us) → Vals vs us → sp p.1 C d vs H Q E → codeAny (model P w) A (.call (.ref f) args) (CR CX0 outer P w H s Q E) s
section
variable {P : Program} {w : World} {K : PySem.W.Frag} {mg : Str → Option Value} {base : Heap} {k : Nat} {f : Addr} {fd : FuncData} {N ps : List Str} {sp : Addr → Addr → Addr → Sp} {x qual : Str} {st : Stmt}
theorem _root_.L2.Fun.okE (F : Fun K x qual st f fd) (S : FnScope N ps (defScope st)) (len : ∀ a C d vs H Q E, sp a C d vs H Q E → vs.length = ps.length)
    (body : ∀ (cdv : Value) (A : Around) (outer : List Env) (s : Shared) (H : Hp) (vs : List V) (Q : VK) (E : XK) (p : Addr × Obj) (C d : Addr), ErrP C d p → RoomH k (A.deeper (envOfC qual (defScope st) s.heap.objs.size f cdv)) → sp p.1 C d vs H Q E →
      ∃ t, PSs (cxH CX0 P w K mg base N qual (defScope st) f cdv A outer s H E p) (defBody st) t ∧ t { nx := fun _ H' => Q .non H', rt := Q } (L2.start N vs) H) : FnE P w K mg base (k + 1) f fd ps sp := by
  obtain ⟨oc, od, kV, doc, pm, an, cdv, ct, osl, rfl, lk, hcd⟩ := F.ex
  constructor
  · exact len
  · intro A outer s H args us vs Q E p C d room ep pin e0 bi rel hsp
    have nl := len _ _ _ _ _ _ _ hsp
    have up : ∀ b o, base.get? b = some o → s.heap.get? b = some o := fun b o e => (e0.bs b o e).1
    have kin : K.In s.heap := e0.mod.kin.keeps up
    have kinds : ∀ y ∈ ps.zip us, (defScope st).names.lookup y.1 = some .local ∨ ((defScope st).names.lookup y.1 = some .cell ∧ ((cellsFrom (s.heap.objs.size + 1) (defScope st).names []).lookup y.1).isSome = true) := by
      rintro ⟨n, v⟩ hy
      rcases S.par n (List.of_mem_zip hy).1 with q | q
      · exact Or.inl q
      · exact Or.inr ⟨q, PySem.W.cellsFrom_some _ _ _ (Or.inl q)⟩
    refine codeAny_call_function room.depth (kin _ _ lk) rfl S.co S.gen rfl (PySem.W.codeRec_of kin hcd) (bi _ _ _ _ (wpAny_newFunctionEnv_cells S.kind kinds fun env eqv s1 ic => ?_))
    subst eqv
    obtain ⟨t, ht, hq⟩ := body cdv A outer s H vs Q E p C d ep (room.deeper _) hsp
    have J : Inv (cxH CX0 P w K mg base N qual (defScope st) f cdv A outer s H E p) [] (L2.start N vs) H s1 := inv_startH S pin e0 nl rel ic
    refine ⟨(e0.mod.nolimit.keeps up).keeps ic.toInCall.keep, codeAny_func (wpAny_mono (ht.run [] s1 (L2.start N vs) H _ J hq) (fun fl s' z => ?_) fun e s' z => z)⟩
    have done : ∀ {σ' : St} {H' : Hp} {v : V} {u : Value}, Inv (cxH CX0 P w K mg base N qual (defScope st) f cdv A outer s H E p) [] σ' H' s' → RelV v u → Q v H' → CE outer P w H s Q u s' := by
      intro σ' H' v u I r q
      exact ⟨v, H', I.os, I.bare, I.base, I.hok, r, q⟩
    match fl, z with
    | .ret u, ⟨v, σ', H', I, r, q⟩ => exact done I r q
    | .next, ⟨σ', H', I, q⟩ => exact done (v := V.non) (u := Value.none) I rfl q
    | .brk, ⟨_, _, _, q⟩ => exact False.elim q
    | .cont, ⟨_, _, _, q⟩ => exact False.elim q
end
/-- f(..) where p is at hand -/
def tCallE (sp : Addr → Addr → Addr → Sp) (a C d : Addr) (t : TA) : TE := fun σ H Q => t σ H fun vs H1 => sp a C d vs H1 Q E0
/-- isinstance(e, c), e the error at a -/
def rIsP (K : PySem.W.Frag) (a C d : Addr) : List V → Hp → VK → Prop := fun xs H Q => ExcC K C ∧ ∃ (c : V) (cv : Value) (b : Bool) (fs : List (Str × V)), xs = [.ref a, c] ∧ (∀ u, RelV c u → u = cv) ∧ PySem.W.kitOne K (.ref C) cv = some b ∧ H d = some (.xd fs) ∧ Q (.bl b) H
section
variable {X : Cx} {k : Nat} {f C d : Addr} {fd : FuncData} {ps : List Str} {sp : Addr → Addr → Addr → Sp} {x : Str} {q pos : Pos} {e : Expr} {es : List Expr} {t : TA} {p : Addr × Obj}
theorem pe_callE (F : FnE X.prog X.w X.K X.mg X.base k f fd ps sp) (hr : RoomH k X.A) (hp : p ∈ X.pn) (ep : ErrP C d p) (hg : Gl X x) (hm : X.mg x = some (.ref f)) (hk : PySem.W.keepIn X.K (.ref f) = true) (hb : Binds X.K fd ps []) (ha : PA X (e :: es) t)
    (hdb : (x == ("__debug__" : Str)) = false := by decide) (he : starEach (e :: es) X.env = (false, eval e X.env) :: starEach es X.env := by rfl) (hpl : (backTo pos (starEach es X.env)).any (·.1) = false := by rfl) :
    PE X (.Call (.Name x q) (e :: es) [] pos) (tCallE sp p.1 C d t) := by
  refine ⟨fun pins s σ H Q I h => wpAny_Call_Name_kw (ld_glob I hg hm ?_ hdb)⟩
  refine PySem.W.callWith_K (h₀ := X.base) I.ok.mod.kin hk (thn (ha.run pos pins s σ H _ I h) fun us s1 ⟨vs, H1, I1, r, z⟩ => ⟨I1.kIn, ?_⟩) he hpl
  have nl : us.length = ps.length := by
    rw [← r.length]
    exact F.len _ _ _ _ _ _ _ z
  have bb := hb s1 us I1.kIn (by rw [List.append_nil]; exact nl)
  rw [List.append_nil] at bb
  obtain ⟨p1, p2, p3, p4, p5⟩ := I1.pin p (List.mem_append_left _ hp)
  have pin : PinOk X.stack H1 s1 p := ⟨p1, p2, fun hm => (List.mem_cons.mp (I1.stkSub p.1 hm)).elim p3 p4, p5⟩
  refine wpAny_call (codeAny_mono (F.run X.A X.stack s1 H1 ⟨us, []⟩ us vs Q E0 p C d hr ep pin I1.env0 bb r z) fun r2 s2 y => ?_)
  match r2, y with
  | .ok (.ret u), y => exact I1.after y
  | .ok .next, y => exact False.elim y
  | .ok .brk, y => exact False.elim y
  | .ok .cont, y => exact False.elim y
  | .error er, y => exact False.elim y
theorem call_isP (hp : p ∈ X.pn) (ep : ErrP C d p) : CallR X (.builtin "isinstance") (rIsP X.K p.1 C d) := by
  intro pins s σ H xs us Q I r h
  obtain ⟨ec, c, cv, b, fs, rfl, hcv, e, hd, q⟩ := h
  match us, r with
  | [u0, u1], .cons r0 (.cons r1 .nil) =>
    obtain rfl : u0 = Value.ref p.1 := r0
    obtain rfl := hcv _ r1
    obtain ⟨hget, _⟩ := I.pin p (List.mem_append_left _ hp)
    obtain ⟨vs, hv⟩ := ep.fs
    have hx : ObjOk X.prog X.w H s.heap d (.xd fs) := I.hok d _ hd
    obtain ⟨mA, ns, _⟩ := hx
    obtain ⟨od, hod, _⟩ := lookIn_ns ns
    have J : PySem.W.InstAt s.heap p.1 p.2 C (some od) := by
      obtain ⟨z1, z2⟩ := ep.z
      exact ⟨hget, z1, by unfold PySem.W.notCls; rw [hv] <;> rfl, by rw [z2]; exact hod⟩
    exact PySem.W.kia_one (MXc.kit_err ec) I.kIn J e (fun z => nomatch z) fun tk => ⟨.bl b, H, I.kept (t' := tk) fun _ _ z => z, rfl, q⟩
end
end MXe
/-! xs.count(True), xs a list of bools. -/
namespace MXf
open PySem PySem.Spec PyProof.Rows L2
theorem bools_is : ∀ {bs : List Bool} {us : List Value}, Vals (bs.map V.bl) us → us = bs.map Value.bool
  | [], _, .nil => rfl
  | b :: r, _, .cons h t => by
    have e := bools_is t
    rw [e, show _ = Value.bool b from h]
    rfl
theorem count_is (k : Bool) : ∀ bs : List Bool, (bs.map Value.bool).countP (isBoolOf k) = bs.count k
  | [] => rfl
  | b :: r => by
    rw [List.map_cons, List.countP_cons, List.count_cons, count_is k r]
    rfl
/-- xs.count(k) -/
def rCntB (K : PySem.W.Frag) : V → List V → Hp → VK → Prop := fun x xs H Q => ∃ (p : Addr) (bs : List Bool) (k : Bool), x = .ref p ∧ xs = [.bl k] ∧ SqL K H p (bs.map V.bl) ∧ Q (.int (bs.count k : Nat)) H
theorem mt_countB {X : Cx} : MtR X "list.count" (rCntB X.K) := by
  intro pins s σ H x xs v us Q I rx rxs h
  obtain ⟨p, bs, k, rfl, rfl, hs, q⟩ := h
  obtain rfl : v = Value.ref p := rx
  obtain ⟨u, rfl, ru⟩ := rxs.one
  obtain rfl : u = Value.bool k := ru
  obtain ⟨its, rv, ⟨⟨cls, dd, data, sl⟩, n, ho, hc, hdn, hd⟩, hlen⟩ := I.list hs
  simp only at hc hd
  subst hc hd
  have e := bools_is rv
  subst e
  refine call_meets PySem.F.slot_list_count ⟨_, ho, rfl⟩ PySem.F.entry_list_count (PySem.F.args_list_count_2 _ _)
    (SeqAt.list_countAt p (bs.map Value.bool).toArray n dd sl (.bool k) (isBoolOf k)) ⟨ho, fun y hy => ?_, ?_⟩
  · have hy' : y ∈ bs.map Value.bool := by simpa using hy
    obtain ⟨b, _, rfl⟩ := List.mem_map.mp hy'
    exact SeqAt.EqAt.bool_bool b k
  · refine ⟨.int (bs.count k : Nat), H, I.tok _, ⟨s.toks, ?_⟩, q⟩
    show Value.int (((bs.map Value.bool).toArray.toList.countP (isBoolOf k) : Nat) : Int) s.toks = Value.int ((bs.count k : Nat) : Int) s.toks
    rw [← count_is k bs]
end MXf
/-! C(e, ..) of an own class whose __init__ may raise: the wish may speak of the caller's slots. What is never reached. -/
namespace MXg
open PySem PySem.Spec PyProof.Rows L2
abbrev St := L2.St
def tMakeS (C : Addr) (sp : Sp) (E : St → XK) (t : TA) : TE := fun σ H Q => t σ H fun vs H1 => ∀ x dx, H1 x = none → H1 dx = none → dx ≠ x →
  sp (.ref x :: vs) (upd (upd H1 dx (.own x)) x (.ins C dx [])) (fun v H2 => v = .non ∧ Q (.ref x) H2) (E σ)
section
variable {X : Cx} {CX : CXT} {k : Nat} {f C : Addr} {fd : FuncData} {ps : List Str} {sp : Sp} {E : St → XK} {x : Str} {p pos : Pos} {e : Expr} {es : List Expr} {t : TA}
theorem pe_makeS (M : Mk X.K C f) (F : FnOk X.prog X.w X.K X.mg X.base CX k f fd ps sp) (hr : Room (k + 1) X.A) (hg : Gl X x) (hm : X.mg x = some (.ref C)) (hb : Binds X.K fd ps []) (hx : ∀ σ, PassesAt CX X σ (E σ)) (ha : PA X (e :: es) t)
    (hdb : (x == ("__debug__" : Str)) = false := by decide) (he : starEach (e :: es) X.env = (false, eval e X.env) :: starEach es X.env := by rfl) (hpl : (backTo pos (starEach es X.env)).any (·.1) = false := by rfl) :
    PE X (.Call (.Name x p) (e :: es) [] pos) (tMakeS C sp E t) := by
  refine ⟨fun pins s σ H Q I h => wpAny_Call_Name_kw (ld_glob I hg hm ?_ hdb)⟩
  refine PySem.W.callWith_K (h₀ := X.base) I.ok.mod.kin M.kp (thn (ha.run pos pins s σ H _ I h) fun us s1 ⟨vs, H1, I1, r, q⟩ => ⟨I1.kIn, ?_⟩) he hpl
  have want := q (s1.heap.objs.size + 1) s1.heap.objs.size (I1.hok.fresh (Nat.le_succ _)) (I1.hok.fresh (Nat.le_refl _)) (Nat.ne_of_lt (Nat.lt_succ_self _))
  have J := Inv.made (C := C) I1
  have rr : Vals (V.ref (s1.heap.objs.size + 1) :: vs) (Value.ref (s1.heap.objs.size + 1) :: us) := .cons rfl r
  have nl : (Value.ref (s1.heap.objs.size + 1) :: us).length = ps.length := by
    rw [← rr.length]
    exact F.len _ _ _ _ want
  have bb := hb ⟨(s1.heap.push PySem.W.emptyDict).push (PySem.W.instObj C s1.heap.objs.size), s1.gens, s1.drawn, s1.toks, s1.os⟩ (Value.ref (s1.heap.objs.size + 1) :: us) J.kIn (by rw [List.append_nil]; exact nl)
  rw [List.append_nil] at bb
  refine wpAny_call (make_map (f := f) I1.kIn M.makes M.init (beq_iff_eq.mp M.fn) (codeAny_mono
    (F.run _ X.stack _ _ ⟨Value.ref (s1.heap.objs.size + 1) :: us, []⟩ _ _ _ (E σ) (hr.make C us []) (J.env0.make C us []) bb rr want) fun r2 s2 z => ?_))
  match r2, z with
  | .error er, z => exact hx σ pins _ _ er s2 J z
  | .ok (.ret u), z =>
    obtain ⟨v, H', I3, rv, ev, q3⟩ := J.after z
    subst ev
    exact ⟨rv, ⟨V.ref (s1.heap.objs.size + 1), H', I3, rfl, q3⟩⟩
  | .ok .next, z => exact False.elim z
  | .ok .brk, z => exact False.elim z
  | .ok .cont, z => exact False.elim z
/-- never reached -/
theorem pt_no {e : Expr} : PT X e (fun _ _ _ => False) := ⟨fun _ _ _ _ _ _ h => h.elim⟩
theorem pe_no {e : Expr} : PE X e (fun _ _ _ => False) := ⟨fun _ _ _ _ _ _ h => h.elim⟩
theorem pss_no {st : List Stmt} : PSs X st (fun _ _ _ => False) := ⟨fun _ _ _ _ _ _ h => h.elim⟩
end
end MXg
/-! What many laws' helpers want: powers of great ints; the creel (three ints in a list at c) and what leaves all but it. -/
namespace LK
open PySem PySem.Spec PyProof.Rows L2
abbrev St := L2.St
/-- i ** j: j not below 0, the outcome of at most 2 ^ 27 bits -/
def CPowB (i j : Int) : Prop := 0 ≤ j ∧ (Builtin.Int.intBits i : Int) * j ≤ 2 ^ 27
theorem op_powB {X : Cx} : OpR X (binaryOp .Pow) (rI CPowB fun i j => .int (i ^ j.toNat)) := opI fun _ _ _ _ _ _ _ hc q => pow_int hc.1 hc.2 q
theorem bits_small {i : Int} {n : Nat} (h : i.natAbs < 2 ^ n) (h0 : 0 < n) : Builtin.Int.intBits i ≤ n := by
  unfold Builtin.Int.intBits
  split
  · omega
  · have := PySem.Flt.log2_lt_of h0 h
    omega
/-- all that was tracked is as it was, but perhaps at c -/
def Bt (c : Addr) (H H' : Hp) : Prop := ∀ b o, b ≠ c → H b = some o → H' b = some o
theorem Bt.refl (c : Addr) (H : Hp) : Bt c H H := fun _ _ _ h => h
theorem Bt.trans {c : Addr} {H H1 H2 : Hp} (a : Bt c H H1) (b : Bt c H1 H2) : Bt c H H2 := fun x o n h => b x o n (a x o n h)
theorem Bt.of {c : Addr} {H H' : Hp} (s : Same H H') : Bt c H H' := fun b o _ h => s b o h
theorem Bt.put {c : Addr} {H : Hp} {o : HO} : Bt c H (upd H c o) := fun b u n h => by
  rw [upd_ne n]
  exact h
/-- the creel at c: three ints, none below 0, the second below 10 ^ 40, the third at most B -/
def CR (H : Hp) (c : Addr) (B : Nat) : Prop := ∃ a b n : Int, H c = some (.lst [.int a, .int b, .int n]) ∧ 0 ≤ a ∧ 0 ≤ b ∧ b < 10 ^ 40 ∧ 0 ≤ n ∧ n ≤ B
theorem CR.mono {H : Hp} {c : Addr} {B B' : Nat} (h : CR H c B) (l : B ≤ B') : CR H c B' := by
  obtain ⟨a, b, n, e, h1, h2, h3, h4, h5⟩ := h
  exact ⟨a, b, n, e, h1, h2, h3, h4, by omega⟩
theorem CR.same {H H' : Hp} {c : Addr} {B : Nat} (h : CR H c B) (s : Same H H') : CR H' c B := by
  obtain ⟨a, b, n, e, r⟩ := h
  exact ⟨a, b, n, s _ _ e, r⟩
theorem CR.ne {H : Hp} {c p : Addr} {B : Nat} {o : HO} (h : CR H c B) (e : H p = some o) (d : ∀ xs, o ≠ .lst xs) : p ≠ c := by
  obtain ⟨a, b, n, ec, _⟩ := h
  exact ne_of e ec (d _)
theorem CR.fresh {H : Hp} {c p : Addr} {B : Nat} (h : CR H c B) (n : H p = none) : c ≠ p := by
  obtain ⟨a, b, k, ec, _⟩ := h
  exact ne_of_none ec n
theorem CR.upd {H : Hp} {c p : Addr} {B : Nat} {o : HO} (h : CR H c B) (n : p ≠ c) : CR (upd H p o) c B := by
  obtain ⟨a, b, k, e, r⟩ := h
  exact ⟨a, b, k, by rw [upd_ne (Ne.symm n)]; exact e, r⟩
/-- a draw: the creel goes on, the digit lies below span -/
def spPly : Sp := fun vs H Q _ => ∃ (c : Addr) (span : Int) (B : Nat), vs = [.ref c, .int span] ∧ 0 < span ∧ span < 2 ^ 60 ∧ CR H c B ∧ B < 10 ^ 12 ∧
  ∀ (d : Int) (H' : Hp), 0 ≤ d → d < span → CR H' c (B + 1) → Bt c H H' → (∀ p, H' p = none ↔ H p = none) → Q (.int d) H'
/-- the creel of a script's cell -/
def spCreel (K : PySem.W.Frag) : Sp := fun vs H Q _ => ∃ (a : Addr) (ns : List Int) (i : Nat), vs = [.ref a, .int i] ∧ SqL K H a (ns.map V.int) ∧ i ≤ 1000 ∧ ∀ (c : Addr) (H' : Hp), H c = none → CR H' c 0 → Same H H' → Q (.ref c) H'
theorem ifT {k : Bool} {A B : Prop} (e : k = true) (h : A) : if k = true then A else B := by
  rw [if_pos e]
  exact h
theorem ifF {k : Bool} {A B : Prop} (e : k = false) (h : B) : if k = true then A else B := by
  rw [e]
  exact iteF h
theorem same_new {H : Hp} {p : Addr} {o : HO} (h : H p = none) : Same H (upd H p o) := fun b u e => by
  rw [upd_ne (ne_of_none e h)]
  exact e
theorem upd_none {H : Hp} {c p : Addr} {o o' : HO} (h : H c = some o) : upd H c o' p = none ↔ H p = none := by
  by_cases e : p = c
  · rw [e, upd_same, h]
    constructor <;> intro z <;> cases z
  · rw [upd_ne e]
/-- the built-ins that the laws and the program name -/
def blts : List Str := ["isinstance", "len", "int", "range", "ValueError", "bool", "list", "set", "enumerate", "tuple", "str", "max", "min", "abs", "sorted", "zip", "all", "sum", "any", "dict", "reversed"]
abbrev Bl (mg : Str → Option Value) : Prop := ∀ n, n ∈ blts → mg n = none
end LK
namespace B7
open PySem PySem.Spec PyProof.Rows L2 LK
abbrev St := L2.St
def top (i : Nat) : Stmt := PySem.Challenge.pw_runsdown_k17_seen_runs_of_greater_cloths.main.body.getD i (.Pass ⟨0, 0, 0, 0⟩)
abbrev sPly : Stmt := top 37
abbrev sCreel : Stmt := top 41
section
variable {P : Program} {w : World} {K : PySem.W.Frag} {mg : Str → Option Value} {base : Heap}
theorem scPly : FnScope ["creel", "span", "digit", "twine"] ["creel", "span"] (defScope sPly) := ⟨rfl, rfl, rfl, by decide +kernel, rfl, by decide +kernel, by decide +kernel⟩
theorem ok_ply {f : Addr} {fd : FuncData} (F : Fun K "_law_ply" "_law_ply" sPly f fd) (B : Bl mg) : FnOk P w K mg base CX0 1 f fd ["creel", "span"] spPly := by
  refine F.ok scPly (fun vs H Q E h => ?_) (fun cdv A outer s H vs Q E hr h => ?_)
  · obtain ⟨c, span, _, rfl, _⟩ := h
    rfl
  · obtain ⟨c, span, bb, rfl, p0, p1, ⟨a, b, n, hc, a0, b0, b1, n0, n1⟩, bB, k⟩ := h
    refine ⟨_, pss_cons (ps_if (pt_cmpR op_gt (pe_ix ix_list (pv 0) pe_int (fun _ _ => rfl)) pe_int (nomark _)) (pss_cons (ps_set (i := 2) scPly.nd rfl (Or.inl rfl) (pe_op op_mod (pe_callTy call_int1 (by rfl) (B "int" (by decide)) (by decide +kernel) (pa_cons (pe_ix ix_list (pv 0) pe_int (fun _ _ => rfl)) pa_nil)) (pv 1)))
      (pss_cons (ps_asg (pe_op op_fdivW (pe_ix ix_list (pv 0) pe_int (fun _ _ => rfl)) (pv 1)) (pg_sub (pv 0) pe_int set_list))
      (pss_one (ps_ret (pv 2))))) pss_nil)
      (pss_cons (ps_asg (pe_op op_add (pe_ix ix_list (pv 0) pe_int (fun _ _ => rfl)) pe_int) (pg_sub (pv 0) pe_int set_list))
      (pss_cons (ps_set (i := 3) scPly.nd rfl (Or.inl rfl) (pe_op op_mod (pe_op op_powB (pe_callTy call_int1 (by rfl) (B "int" (by decide)) (by decide +kernel) (pa_cons (pe_op op_add (pe_ix ix_list (pv 0) pe_int (fun _ _ => rfl)) (pe_op op_mul pe_int (pe_ix ix_list (pv 0) pe_int (fun _ _ => rfl)))) pa_nil)) pe_int) (pe_op op_add (pe_op op_pow pe_int pe_int) pe_int)))
      (pss_cons (ps_set (i := 3) scPly.nd rfl (Or.inl rfl) (pe_op op_mod (pe_op op_powB (pe_callTy call_int1 (by rfl) (B "int" (by decide)) (by decide +kernel) (pa_cons (pe_op op_add (pv 3) (pe_op op_mul pe_int (pe_ix ix_list (pv 0) pe_int (fun _ _ => rfl)))) pa_nil)) pe_int) (pe_op op_add (pe_op op_pow pe_int pe_int) pe_int)))
      (pss_one (ps_ret (pe_op op_mod (pe_op op_fdivW (pv 3) pe_int) (pv 1))))))), ?_⟩
    refine ⟨_, rfl, c, _, 0, _, rfl, rfl, SqL.of hc, atI_nat (j := 0) rfl, _, _, rfl, rfl, _, rfl, ?_⟩
    by_cases big : a > 0
    · refine LK.ifT (decide_eq_true big) ?_
      refine ⟨_, rfl, c, _, 0, _, rfl, rfl, SqL.of hc, atI_nat (j := 0) rfl, .inl ⟨_, rfl, _, rfl, _, _, rfl, rfl, p0, ?_⟩⟩
      refine ⟨_, rfl, c, _, 0, _, rfl, rfl, SqL.of hc, atI_nat (j := 0) rfl, _, rfl, _, _, rfl, rfl, wide_div (b := 60) p0 (by omega) (by decide) (by decide), ?_⟩
      refine ⟨_, rfl, c, _, _, 0, rfl, rfl, hc, rfl, ?_⟩
      exact ⟨_, rfl, k _ _ (Int.emod_nonneg _ (by omega)) (Int.emod_lt_of_pos _ p0) ⟨_, _, _, upd_same, Int.ediv_nonneg a0 (by omega), b0, b1, n0, by omega⟩ Bt.put (fun p => upd_none hc)⟩
    · refine LK.ifF (decide_eq_false big) ?_
      refine ⟨_, rfl, c, _, 2, _, rfl, rfl, SqL.of hc, atI_nat (j := 2) rfl, _, _, rfl, rfl, ?_⟩
      refine ⟨_, rfl, c, _, _, 2, rfl, rfl, hc, rfl, ?_⟩
      have hc2 : upd H c (.lst [.int a, .int b, .int (n + 1)]) c = some (.lst [.int a, .int b, .int (n + 1)]) := upd_same
      refine ⟨_, rfl, c, _, 1, _, rfl, rfl, SqL.of hc2, atI_nat (j := 1) rfl, _, rfl, c, _, 2, _, rfl, rfl, SqL.of hc2, atI_nat (j := 2) rfl, _, _, rfl, rfl, .inl ⟨by decide, by decide⟩, _, _, rfl, rfl, .inl ⟨_, rfl, ?_⟩⟩
      have m0 : 0 ≤ b + 50021 * (n + 1) := by omega
      have m1 : b + 50021 * (n + 1) < 2 ^ 140 := by
        have : (10 : Int) ^ 40 + 50021 * (10 ^ 12 + 1) < 2 ^ 140 := by decide
        omega
      have w1 := bits_small (i := b + 50021 * (n + 1)) (n := 140) (by omega) (by decide)
      refine ⟨_, _, rfl, rfl, ⟨by decide, by omega⟩, _, _, rfl, rfl, ⟨by decide, by decide, by decide⟩, _, _, rfl, rfl, _, _, rfl, rfl, (show (0 : Int) < 10 ^ 38 + 67 by decide), ?_⟩
      generalize hx : (b + 50021 * (n + 1)) ^ (2 : Int).toNat % ((10 : Int) ^ (38 : Int).toNat + 67) = x
      have x0 : 0 ≤ x := by rw [← hx]; exact Int.emod_nonneg _ (by decide)
      have x1 : x < 10 ^ 38 + 67 := by rw [← hx]; exact Int.emod_lt_of_pos _ (by decide)
      refine ⟨_, rfl, _, rfl, c, _, 2, _, rfl, rfl, SqL.of hc2, atI_nat (j := 2) rfl, _, _, rfl, rfl, .inl ⟨by decide, by decide⟩, _, _, rfl, rfl, .inl ⟨_, rfl, ?_⟩⟩
      have q0 : 0 ≤ x + 700001 * (n + 1) := by omega
      have q1 : x + 700001 * (n + 1) < 2 ^ 140 := by
        have : (10 : Int) ^ 38 + 67 + 700001 * (10 ^ 12 + 1) < 2 ^ 140 := by decide
        omega
      have w2 := bits_small (i := x + 700001 * (n + 1)) (n := 140) (by omega) (by decide)
      refine ⟨_, _, rfl, rfl, ⟨by decide, by rw [hx]; omega⟩, _, _, rfl, rfl, ⟨by decide, by decide, by decide⟩, _, _, rfl, rfl, _, _, rfl, rfl, (show (0 : Int) < 10 ^ 39 + 37 by decide), ?_⟩
      generalize hy : (x + 700001 * (n + 1)) ^ (3 : Int).toNat % ((10 : Int) ^ (39 : Int).toNat + 37) = y
      refine ⟨_, rfl, _, _, rfl, rfl, wide_div (b := 60) (by decide) (by decide) (by decide) (by decide), _, rfl, _, _, rfl, rfl, p0, ?_⟩
      exact k _ _ (Int.emod_nonneg _ (by omega)) (Int.emod_lt_of_pos _ p0) ⟨_, _, _, hc2, a0, b0, b1, by omega, by omega⟩ Bt.put (fun p => upd_none hc)
theorem scCreel : FnScope ["script", "at", "strand"] ["script", "at"] (defScope sCreel) := ⟨rfl, rfl, rfl, by decide +kernel, rfl, by decide +kernel, by decide +kernel⟩
theorem ok_creel {f : Addr} {fd : FuncData} (F : Fun K "_law_creel" "_law_creel" sCreel f fd) (B : Bl mg) : FnOk P w K mg base CX0 1 f fd ["script", "at"] (spCreel K) := by
  refine F.ok scCreel (fun vs H Q E h => ?_) (fun cdv A outer s H vs Q E hr h => ?_)
  · obtain ⟨a, ns, i, rfl, _⟩ := h
    rfl
  · obtain ⟨a, ns, i, rfl, hS, hi, k⟩ := h
    refine ⟨_, pss_cons (ps_set (i := 2) scCreel.nd rfl (Or.inl rfl) (pe_ifExp (pt_cmpR op_lt (pv 1) (pe_callB call_len_seq (by rfl) (B "len" (by decide)) (by decide +kernel) (pa_cons (pv 0) pa_nil)) (nomark _)) (pe_ix ix_list (pv 0) (pv 1) (fun _ _ => rfl)) pe_int))
      (pss_one (ps_ret (pe_lst (pa_cons (pe_callB (call_max2 rfl) (by rfl) (B "max" (by decide)) (by decide +kernel) (pa_cons pe_int (pa_cons (pe_op op_sub (pe_callB call_abs (by rfl) (B "abs" (by decide)) (by decide +kernel) (pa_cons (pv 2) pa_nil)) (pe_op op_pow pe_int pe_int)) pa_nil))) (pa_cons (pe_op op_add (pe_op op_add (pe_op op_mul (pe_op op_mod (pe_callTy call_int1 (by rfl) (B "int" (by decide)) (by decide +kernel) (pa_cons (pv 2) pa_nil)) (pe_op op_add (pe_op op_pow pe_int pe_int) pe_int)) pe_int) (pe_op op_mul pe_int (pv 1))) pe_int) (pa_cons pe_int pa_nil)))))), ?_⟩
    refine ⟨_, rfl, _, rfl, a, _, rfl, .inl hS, _, _, rfl, rfl, _, rfl, ?_⟩
    rw [List.length_map]
    have fin : ∀ z : Int, 0 ≤ (if (if z < 0 then -z else z) - 10 ^ (18 : Int).toNat > 0 then (if z < 0 then -z else z) - 10 ^ (18 : Int).toNat else 0) := fun z => by
      split <;> omega
    have m0 : ∀ z : Int, 0 ≤ z % ((10 : Int) ^ (37 : Int).toNat + 3) := fun z => Int.emod_nonneg _ (by decide)
    have m1 : ∀ z : Int, z % ((10 : Int) ^ (37 : Int).toNat + 3) < (10 : Int) ^ (37 : Int).toNat + 3 := fun z => Int.emod_lt_of_pos _ (by decide)
    have m2 : ((10 : Int) ^ (37 : Int).toNat + 3) * 71 + 60000 < 10 ^ 40 := by decide
    by_cases lt : (i : Int) < ns.length
    · refine LK.ifT (decide_eq_true lt) ?_
      obtain ⟨z, hz⟩ : ∃ z, ns[i]? = some z := ⟨ns[i]'(by omega), List.getElem?_eq_getElem (by omega)⟩
      refine ⟨_, rfl, _, rfl, a, _, (i : Int), _, rfl, rfl, hS, atI_nat (v := V.int z) (by rw [List.getElem?_map, hz]; rfl), ?_⟩
      have f0 := fin z
      have f1 := m0 z
      have f2 := m1 z
      refine ⟨_, rfl, _, rfl, _, _, rfl, rfl, ⟨by decide, by decide, by decide⟩, _, _, rfl, rfl, _, _, rfl, ?_⟩
      refine ⟨_, rfl, .inl ⟨_, rfl, _, _, rfl, rfl, ⟨by decide, by decide, by decide⟩, _, _, rfl, rfl, _, _, rfl, rfl, (show (0 : Int) < 10 ^ 37 + 3 by decide), _, _, rfl, rfl, .inr ⟨by decide, by decide⟩, _, rfl, _, _, rfl, rfl, .inl ⟨by decide, by decide⟩, _, _, rfl, rfl, _, _, rfl, rfl, ?_⟩⟩
      exact ⟨by show 3 ≤ sizeLine; decide, fun p np => k _ _ np ⟨_, _, _, upd_same, f0, by omega, by omega, by omega, by omega⟩ (same_new np)⟩
    · refine LK.ifF (decide_eq_false lt) ?_
      have f0 := fin 0
      have f1 := m0 0
      have f2 := m1 0
      refine ⟨_, rfl, _, rfl, _, _, rfl, rfl, ⟨by decide, by decide, by decide⟩, _, _, rfl, rfl, _, _, rfl, ?_⟩
      refine ⟨_, rfl, .inl ⟨_, rfl, _, _, rfl, rfl, ⟨by decide, by decide, by decide⟩, _, _, rfl, rfl, _, _, rfl, rfl, (show (0 : Int) < 10 ^ 37 + 3 by decide), _, _, rfl, rfl, .inr ⟨by decide, by decide⟩, _, rfl, _, _, rfl, rfl, .inl ⟨by decide, by decide⟩, _, _, rfl, rfl, _, _, rfl, rfl, ?_⟩⟩
      exact ⟨by show 3 ≤ sizeLine; decide, fun p np => k _ _ np ⟨_, _, _, upd_same, f0, by omega, by omega, by omega, by omega⟩ (same_new np)⟩
end
end B7
/-! What is read as data: its class, isinstance, what stays; and the compared helper's promise. -/
namespace LK
open PySem PySem.Spec PyProof.Rows L2
/-- the name of a datum's class -/
def tyN : PyData → String
  | .none => "NoneType"
  | .bool _ => "bool"
  | .int _ => "int"
  | .str _ => "str"
  | .list _ => "list"
  | .tuple _ => "tuple"
  | .dict _ => "dict"
theorem seqL_ty {K : PySem.W.Frag} {H : Hp} {a : Addr} {xs : List V} (h : SqL K H a xs) : TyX K H (.ref a) (.type "list") := by
  rcases h with (h | ⟨o, h⟩) | ⟨o, its, n, h, c, _⟩
  · exact .base (.lst h)
  · exact .base (.frz h)
  · exact .kList h c
theorem seqT_ty {K : PySem.W.Frag} {H : Hp} {a : Addr} {xs : List V} (h : SqT K H a xs) : TyX K H (.ref a) (.type "tuple") := by
  rcases h with (h | ⟨o, h⟩) | ⟨o, its, n, h, c, _⟩
  · exact .base (.tup h)
  · exact .fTuple h
  · exact .kTuple h c
theorem dp_ty {K : PySem.W.Frag} {H : Hp} {v : V} {d : PyData} (h : Dp K H v d) : TyX K H v (.type (tyN d)) := by
  cases h with
  | non => exact .base .non
  | bl b => exact .base (.bl b)
  | int i => exact .base (.int i)
  | str x => exact .base (.str x)
  | lst s _ => exact seqL_ty s
  | tup s _ => exact seqT_ty s
def isK (d : PyData) (T : String) : Bool := (kitB (tyN d) T).getD false
theorem kit_d {K : PySem.W.Frag} {H : Hp} {v : V} {d : PyData} (h : Dp K H v d) (T : String) (hT : T ∈ (["bool", "int", "str", "list", "tuple"] : List String)) : PySem.W.kitOne K (.type (tyN d)) (.type T) = some (isK d T) := by
  refine kit_ty ?_
  unfold isK
  simp only [List.mem_cons, List.not_mem_nil, or_false] at hT
  cases h <;> rcases hT with rfl | rfl | rfl | rfl | rfl <;> simp only [tyN] <;> decide +kernel
theorem kit_lt {K : PySem.W.Frag} {H : Hp} {v : V} {d : PyData} (h : Dp K H v d) : PySem.W.kitAny K (.type (tyN d)) [.type "list", .type "tuple"] = some (isK d "list" || isK d "tuple") := by
  refine kitAny_cons (kit_d h "list" (by decide)) (fun e => ?_) (fun e => by rw [e]; rfl)
  rw [e, Bool.false_or]
  refine kitAny_cons (kit_d h "tuple" (by decide)) (fun e => ?_) (fun e => e)
  rw [e]
  rfl
theorem same_tup {K : PySem.W.Frag} {H H' : Hp} {a : Addr} {xs : List V} (e : Same H H') (h : SqT K H a xs) : SqT K H' a xs := by
  rcases h with (h | ⟨o, h⟩) | h
  · exact .inl (.inl (e _ _ h))
  · exact .inl (.inr ⟨o, e _ _ h⟩)
  · exact .inr h
mutual
theorem dp_same {K : PySem.W.Frag} {H H' : Hp} (e : Same H H') : ∀ {v : V} {d : PyData}, Dp K H v d → Dp K H' v d
  | _, _, .non => .non
  | _, _, .bl b => .bl b
  | _, _, .int i => .int i
  | _, _, .str x => .str x
  | _, _, .lst s a => .lst (e.seq s) (dps_same e a)
  | _, _, .tup s a => .tup (same_tup e s) (dps_same e a)
theorem dps_same {K : PySem.W.Frag} {H H' : Hp} (e : Same H H') : ∀ {vs : List V} {ds : List PyData}, DpAll K H vs ds → DpAll K H' vs ds
  | _, _, .nil => .nil
  | _, _, .cons a r => .cons (dp_same e a) (dps_same e r)
end
/-- a list or a tuple, its items -/
theorem dp_items {K : PySem.W.Frag} {H : Hp} {v : V} {d : PyData} (h : Dp K H v d) (e : (isK d "list" || isK d "tuple") = true) : ∃ (a : Addr) (xs : List V) (ds : List PyData), v = .ref a ∧ (SqL K H a xs ∨ SqT K H a xs) ∧ DpAll K H xs ds ∧ (d = .list ds ∨ d = .tuple ds) := by
  cases h with
  | non => exact absurd e (by decide +kernel)
  | bl b => exact absurd (show (isK (.bool true) "list" || isK (.bool true) "tuple") = true from e) (by decide +kernel)
  | int i => exact absurd (show (isK (.int 0) "list" || isK (.int 0) "tuple") = true from e) (by decide +kernel)
  | str x => exact absurd (show (isK (.str "") "list" || isK (.str "") "tuple") = true from e) (by decide +kernel)
  | lst s a => exact ⟨_, _, _, rfl, .inl s, a, .inl rfl⟩
  | tup s a => exact ⟨_, _, _, rfl, .inr s, a, .inr rfl⟩
theorem dps_len {K : PySem.W.Frag} {H : Hp} : ∀ {vs : List V} {ds : List PyData}, DpAll K H vs ds → vs.length = ds.length
  | _, _, .nil => rfl
  | _, _, .cons _ r => by
    rw [List.length_cons, List.length_cons, dps_len r]
theorem dps_app {K : PySem.W.Frag} {H : Hp} : ∀ {vs us : List V} {ds es : List PyData}, DpAll K H vs ds → DpAll K H us es → DpAll K H (vs ++ us) (ds ++ es)
  | _, _, _, _, .nil, b => b
  | _, _, _, _, .cons a r, b => .cons a (dps_app r b)
theorem dps_at {K : PySem.W.Frag} {H : Hp} : ∀ {vs : List V} {ds : List PyData} {i : Nat}, DpAll K H vs ds → i < ds.length → ∃ v d, vs[i]? = some v ∧ ds[i]? = some d ∧ Dp K H v d
  | _, _, _, .nil, h => absurd h (Nat.not_lt_zero _)
  | _, _, 0, .cons a r, _ => ⟨_, _, rfl, rfl, a⟩
  | _, _, i + 1, .cons a r, h => by
    obtain ⟨v, d, h1, h2, h3⟩ := dps_at (i := i) r (Nat.lt_of_succ_lt_succ h)
    exact ⟨v, d, h1, h2, h3⟩
theorem lay_at : ∀ {ds : List PyData} {i : Nat} {d : PyData}, PyData.canLayAll0 ds = true → ds[i]? = some d → d.canLay0 = true ∧ d.depth ≤ PyData.depthAll ds
  | [], i, d, _, h => by simp at h
  | x :: r, 0, d, h, e => by
    obtain rfl : x = d := by simpa using e
    rw [PyData.canLayAll0, Bool.and_eq_true] at h
    refine ⟨h.1, ?_⟩
    simp only [PyData.depthAll]
    omega
  | x :: r, i + 1, d, h, e => by
    rw [PyData.canLayAll0, Bool.and_eq_true] at h
    obtain ⟨h1, h2⟩ := lay_at (i := i) h.2 (by simpa using e)
    refine ⟨h1, ?_⟩
    simp only [PyData.depthAll]
    omega
theorem shaped_of {d : PyData} (h : d.canLay0 = true) (n : d.depth ≤ 64) : SeqAt.shaped d = true := by
  show (d.canLay0 && decide (d.depth ≤ 64)) = true
  rw [h, decide_eq_true n]
  rfl
mutual
/-- no list or tuple of more than a million items -/
def few : PyData → Bool
  | .list xs => decide (xs.length ≤ 1000000) && fewAll xs
  | .tuple xs => decide (xs.length ≤ 1000000) && fewAll xs
  | _ => true
def fewAll : List PyData → Bool
  | [] => true
  | x :: r => few x && fewAll r
end
theorem few_at : ∀ {ds : List PyData} {i : Nat} {d : PyData}, fewAll ds = true → ds[i]? = some d → few d = true
  | [], i, d, _, h => by simp at h
  | x :: r, 0, d, h, e => by
    obtain rfl : x = d := by simpa using e
    rw [fewAll, Bool.and_eq_true] at h
    exact h.1
  | x :: r, i + 1, d, h, e => by
    rw [fewAll, Bool.and_eq_true] at h
    exact few_at (i := i) h.2 (by simpa using e)
theorem few_items {d : PyData} {ds : List PyData} (h : few d = true) (e : d = .list ds ∨ d = .tuple ds) : ds.length ≤ 1000000 ∧ fewAll ds = true := by
  rcases e with rfl | rfl <;> (unfold few at h; rw [Bool.and_eq_true] at h; exact ⟨of_decide_eq_true h.1, h.2⟩)
theorem rix_of {K : PySem.W.Frag} {H : Hp} {a : Addr} {xs : List V} {j : Nat} {i : Int} {v : V} {Q : VK} (s : SqL K H a xs ∨ SqT K H a xs) (q : xs[j]? = some v) (e : i = (j : Int)) (k : Q v H) : rIx K (.ref a) (.int i) H Q := by
  subst e
  rcases s with s | s
  · exact .inl ⟨a, xs, _, v, rfl, rfl, s, atI_nat q, k⟩
  · exact .inr (.inl ⟨a, xs, _, v, rfl, rfl, s, atI_nat q, k⟩)
theorem seq_same {K : PySem.W.Frag} {H H' : Hp} {a : Addr} {xs : List V} (e : Same H H') (s : SqL K H a xs ∨ SqT K H a xs) : SqL K H' a xs ∨ SqT K H' a xs := by
  rcases s with s | s
  · exact .inl (e.seq s)
  · exact .inr (same_tup e s)
/-- within a comprehension's block the written part must be said by its letter -/
theorem ixq {X : Cx} {K : PySem.W.Frag} (e : X.K = K := by rfl) : IxR X (rIx K) := e ▸ ix_seq
theorem ixl {X : Cx} {K : PySem.W.Frag} (e : X.K = K := by rfl) : IxR X (rIxL K) := e ▸ ix_list
theorem ixt {X : Cx} {K : PySem.W.Frag} (e : X.K = K := by rfl) : IxR X (rIxT K) := e ▸ ix_tup
/-- two things that are read as one datum match -/
def spM (K : PySem.W.Frag) (n : Nat) : Sp := fun vs H Q _ => ∃ (x y : V) (d : PyData), vs = [x, y] ∧ Dp K H x d ∧ Dp K H y d ∧ d.canLay0 = true ∧ d.depth < n ∧ d.depth ≤ 60 ∧ few d = true ∧ ∀ H', Same H H' → Q (.bl true) H'
theorem ok_never {P : Program} {w : World} {K : PySem.W.Frag} {mg : Str → Option Value} {base : Heap} {k : Nat} {f : Addr} {fd : FuncData} {ps : List Str} : FnOk P w K mg base CX0 k f fd ps (spM K 0) :=
  ⟨fun vs H Q E h => by obtain ⟨_, _, d, _, _, _, _, n, _⟩ := h; exact absurd n (Nat.not_lt_zero _), fun A outer s H args us vs Q E _ _ _ _ h => by obtain ⟨_, _, d, _, _, _, _, n, _⟩ := h; exact absurd n (Nat.not_lt_zero _)⟩
end LK
namespace B7
open PySem PySem.Spec PyProof.Rows L2 LK
abbrev sMat : Stmt := top 39
section
variable {P : Program} {w : World} {K : PySem.W.Frag} {mg : Str → Option Value} {base : Heap}
theorem scMat : FnScope ["found", "due", "k"] ["found", "due"] (defScope sMat) := ⟨rfl, rfl, rfl, by decide +kernel, rfl, by decide +kernel, by decide +kernel⟩
theorem mat_step {f : Addr} {fd : FuncData} (n : Nat) (F : Fun K "_law_matched" "_law_matched" sMat f fd) (B : Bl mg) (g_ : mg "_law_matched" = some (.ref f)) (b_ : Binds K fd ["found", "due"] []) (G : FnOk P w K mg base CX0 n f fd ["found", "due"] (spM K n)) :
    FnOk P w K mg base CX0 (n + 1) f fd ["found", "due"] (spM K (n + 1)) := by
  refine F.ok scMat (fun vs H Q E h => ?_) (fun cdv A outer s H vs Q E hr h => ?_)
  · obtain ⟨x, y, d, rfl, _⟩ := h
    rfl
  · obtain ⟨x, y, d, rfl, hx, hy, lay, dn, d60, fw, k⟩ := h
    refine ⟨_, pss_cons (ps_if (PW.pt (pw_or (pt_val (pe_callB call_isi (by rfl) (B "isinstance" (by decide)) (by decide +kernel) (pa_cons (pv 0) (pa_cons (pe_bltn (v := .ty "bool") rfl (B "bool" (by decide)) (by decide +kernel) rfl) pa_nil)))) (pw_or1 (pt_val (pe_callB call_isi (by rfl) (B "isinstance" (by decide)) (by decide +kernel) (pa_cons (pv 1) (pa_cons (pe_bltn (v := .ty "bool") rfl (B "bool" (by decide)) (by decide +kernel) rfl) pa_nil))))))) (pss_one (ps_ret (pe_and (pe_callB call_isi (by rfl) (B "isinstance" (by decide)) (by decide +kernel) (pa_cons (pv 0) (pa_cons (pe_bltn (v := .ty "bool") rfl (B "bool" (by decide)) (by decide +kernel) rfl) pa_nil))) (pe_and (pe_callB call_isi (by rfl) (B "isinstance" (by decide)) (by decide +kernel) (pa_cons (pv 1) (pa_cons (pe_bltn (v := .ty "bool") rfl (B "bool" (by decide)) (by decide +kernel) rfl) pa_nil))) (pe_one (pe_cmpR (op_eqD hr.units) (pv 0) (pv 1) (nomark _))))))) pss_nil)
      (pss_cons (ps_if (PW.pt (pw_or (pt_cmpR op_ne (pe_callB call_isi (by rfl) (B "isinstance" (by decide)) (by decide +kernel) (pa_cons (pv 0) (pa_cons (pe_bltn (v := .ty "list") rfl (B "list" (by decide)) (by decide +kernel) rfl) pa_nil))) (pe_callB call_isi (by rfl) (B "isinstance" (by decide)) (by decide +kernel) (pa_cons (pv 1) (pa_cons (pe_bltn (v := .ty "list") rfl (B "list" (by decide)) (by decide +kernel) rfl) pa_nil))) (nomark _)) (pw_or1 (pt_cmpR op_ne (pe_callB call_isi (by rfl) (B "isinstance" (by decide)) (by decide +kernel) (pa_cons (pv 0) (pa_cons (pe_bltn (v := .ty "tuple") rfl (B "tuple" (by decide)) (by decide +kernel) rfl) pa_nil))) (pe_callB call_isi (by rfl) (B "isinstance" (by decide)) (by decide +kernel) (pa_cons (pv 1) (pa_cons (pe_bltn (v := .ty "tuple") rfl (B "tuple" (by decide)) (by decide +kernel) rfl) pa_nil))) (nomark _))))) (pss_one (ps_ret pe_bl)) pss_nil)
      (pss_cons (ps_if (PW.pt (pw_or (pt_cmpR op_ne (pe_callB call_isi (by rfl) (B "isinstance" (by decide)) (by decide +kernel) (pa_cons (pv 0) (pa_cons (pe_bltn (v := .ty "str") rfl (B "str" (by decide)) (by decide +kernel) rfl) pa_nil))) (pe_callB call_isi (by rfl) (B "isinstance" (by decide)) (by decide +kernel) (pa_cons (pv 1) (pa_cons (pe_bltn (v := .ty "str") rfl (B "str" (by decide)) (by decide +kernel) rfl) pa_nil))) (nomark _)) (pw_or1 (pt_cmpR op_ne (pe_callB call_isi (by rfl) (B "isinstance" (by decide)) (by decide +kernel) (pa_cons (pv 0) (pa_cons (pe_bltn (v := .ty "int") rfl (B "int" (by decide)) (by decide +kernel) rfl) pa_nil))) (pe_callB call_isi (by rfl) (B "isinstance" (by decide)) (by decide +kernel) (pa_cons (pv 1) (pa_cons (pe_bltn (v := .ty "int") rfl (B "int" (by decide)) (by decide +kernel) rfl) pa_nil))) (nomark _))))) (pss_one (ps_ret pe_bl)) pss_nil)
      (pss_cons (ps_if (pt_val (pe_callB call_isiT (by rfl) (B "isinstance" (by decide)) (by decide +kernel) (pa_cons (pv 1) (pa_cons (pe_tup (pa_cons (pe_bltn (v := .ty "list") rfl (B "list" (by decide)) (by decide +kernel) rfl) (pa_cons (pe_bltn (v := .ty "tuple") rfl (B "tuple" (by decide)) (by decide +kernel) rfl) pa_nil))) pa_nil)))) (pss_cons (ps_if (pt_cmpR op_ne (pe_callB call_len_seq (by rfl) (B "len" (by decide)) (by decide +kernel) (pa_cons (pv 0) pa_nil)) (pe_callB call_len_seq (by rfl) (B "len" (by decide)) (by decide +kernel) (pa_cons (pv 1) pa_nil)) (nomark _)) (pss_one (ps_ret pe_bl)) pss_nil)
      (pss_one (ps_ret (pe_cmpR (op_eqD hr.units) (pe_lc (own := [("k", 2)]) (g := gName 2) rfl scMat.nd (pi_range1 (by rfl) (B "range" (by decide)) (pa_cons (pe_callB call_len_seq (by rfl) (B "len" (by decide)) (by decide +kernel) (pa_cons (pv 1) pa_nil)) pa_nil)) (blkOk_by (N := ["found", "due", "k"]) (sc := defScope sMat) (by decide +kernel)) (fun _ _ _ _ _ => pg_name (i := 2) scMat.nd rfl (Or.inl rfl)) (fun _ _ _ _ _ => pts_one (pt_not (pt_val (pe_call (E := E0) G hr rfl g_ F.kp b_ .nil pass0 (pa_cons (pe_ix (ixq (K := K)) (pv 0) (pv 2) (fun _ _ => rfl)) (pa_cons (pe_ix (ixq (K := K)) (pv 1) (pv 2) (fun _ _ => rfl)) pa_nil)))))) (fun _ _ _ _ _ => pv 2)) (pe_lst pa_nil) (nomark _))))) pss_nil)
      (pss_one (ps_ret (pe_and (pe_cmpR op_eq (pe_cmpR op_isN (pv 0) pe_non (nomark _)) (pe_cmpR op_isN (pv 1) pe_non (nomark _)) (nomark _)) (pe_one (pe_cmpR (op_eqD hr.units) (pv 0) (pv 1) (nomark _))))))))), ?_⟩
    have sh : SeqAt.shaped d = true := shaped_of lay (by omega)
    have is1 : ∀ T, T ∈ (["bool", "int", "str", "list", "tuple"] : List String) → PySem.W.kitOne K (.type (tyN d)) (.type T) = some (isK d T) := fun T hT => kit_d hx T hT
    -- bool?
    refine ⟨_, rfl, _, _, _, _, _, rfl, .ty "bool", dp_ty hx, is1 "bool" (by decide), _, rfl, ?_⟩
    by_cases e1 : isK d "bool" = true
    · refine LK.ifT e1 (LK.ifT rfl ?_)
      refine ⟨_, rfl, _, _, _, _, _, rfl, .ty "bool", dp_ty hx, is1 "bool" (by decide), _, rfl, LK.ifT e1 ?_⟩
      refine ⟨_, rfl, _, _, _, _, _, rfl, .ty "bool", dp_ty hy, is1 "bool" (by decide), _, rfl, LK.ifT e1 ?_⟩
      refine ⟨_, rfl, _, rfl, d, d, hx, hy, sh, sh, ?_⟩
      rw [SeqAt.eqv_refl d lay]
      exact k H (Same.refl H)
    have e1' : isK d "bool" = false := by simpa using e1
    refine LK.ifF e1' ?_
    refine ⟨_, rfl, _, _, _, _, _, rfl, .ty "bool", dp_ty hy, is1 "bool" (by decide), _, rfl, LK.ifF e1' ?_⟩
    -- the kinds agree
    refine ⟨_, rfl, _, _, _, _, _, rfl, .ty "list", dp_ty hx, is1 "list" (by decide), _, rfl, _, _, _, _, _, rfl, .ty "list", dp_ty hy, is1 "list" (by decide), rfl, _, rfl, LK.ifF (by simp) ?_⟩
    refine ⟨_, rfl, _, _, _, _, _, rfl, .ty "tuple", dp_ty hx, is1 "tuple" (by decide), _, rfl, _, _, _, _, _, rfl, .ty "tuple", dp_ty hy, is1 "tuple" (by decide), rfl, _, rfl, LK.ifF (by simp) ?_⟩
    refine ⟨_, rfl, _, _, _, _, _, rfl, .ty "str", dp_ty hx, is1 "str" (by decide), _, rfl, _, _, _, _, _, rfl, .ty "str", dp_ty hy, is1 "str" (by decide), rfl, _, rfl, LK.ifF (by simp) ?_⟩
    refine ⟨_, rfl, _, _, _, _, _, rfl, .ty "int", dp_ty hx, is1 "int" (by decide), _, rfl, _, _, _, _, _, rfl, .ty "int", dp_ty hy, is1 "int" (by decide), rfl, _, rfl, LK.ifF (by simp) ?_⟩
    -- a list or a tuple?
    refine ⟨_, rfl, by show 2 ≤ sizeLine; decide, fun tp ntp => ⟨_, tp, _, _, _, _, rfl, upd_same, .cons (.ty "list") (.cons (.ty "tuple") .nil), dp_ty (dp_same (same_new ntp) hy), kit_lt hy, _, rfl, ?_⟩⟩
    have s1 : Same H (upd H tp (.tup [.ty "list", .ty "tuple"])) := same_new ntp
    have hx1 := dp_same s1 hx
    have hy1 := dp_same s1 hy
    by_cases e2 : (isK d "list" || isK d "tuple") = true
    · refine LK.ifT e2 ?_
      obtain ⟨a, xs, ds, rfl, sa, da, dd⟩ := dp_items hx1 e2
      obtain ⟨b, ys, es, rfl, sb, db, de⟩ := dp_items hy1 e2
      have ee : es = ds := by
        rcases dd with rfl | rfl <;> rcases de with q | q <;> cases q <;> rfl
      subst ee
      have l1 := dps_len da
      have l2 := dps_len db
      have lay2 : PyData.canLayAll0 es = true := by
        rcases dd with rfl | rfl <;> simpa only [PyData.canLay0] using lay
      have dep : PyData.depthAll es + 1 = d.depth := by
        rcases dd with rfl | rfl <;> rfl
      refine ⟨_, rfl, a, _, rfl, sa, _, rfl, b, _, rfl, sb, rfl, _, rfl, LK.ifF (by rw [l1, l2]; simp) ?_⟩
      obtain ⟨big, fw2⟩ := few_items fw dd
      refine ⟨_, rfl, b, _, rfl, sb, (ys.length : Int), rfl, by omega, by omega, fun D nD => ?_⟩
      refine lc_range (lo := 0) (n := ys.length) (fun j H' => Same (upd H tp (.tup [.ty "list", .ty "tuple"])) H' ∧ H' D = some (.lst [])) ⟨same_new nD, upd_same⟩ (fun j H' hj hh => ⟨rfl, ?_⟩) (fun H' hh => ?_)
      · obtain ⟨s2, hD⟩ := hh
        obtain ⟨v1, d1, q1, q2, q3⟩ := dps_at (dps_same s2 da) (i := j) (by omega)
        obtain ⟨v2, d2, p1, p2, p3⟩ := dps_at (dps_same s2 db) (i := j) (by omega)
        obtain rfl : d1 = d2 := Option.some.inj (q2.symm.trans p2)
        obtain ⟨la, ld⟩ := lay_at lay2 q2
        refine ⟨_, rfl, _, rfl, rix_of (seq_same s2 sa) q1 (Int.zero_add _) ⟨_, rfl, _, rfl, rix_of (seq_same s2 sb) p1 (Int.zero_add _) ?_⟩⟩
        exact ⟨v1, v2, d1, rfl, q3, p3, la, by omega, by omega, few_at fw2 q2, fun H3 s3 => ⟨_, rfl, LK.ifF rfl ⟨s2.trans s3, s3 _ _ hD⟩⟩⟩
      · obtain ⟨s2, hD⟩ := hh
        refine ⟨by show 0 ≤ sizeLine; decide, fun q nq => ?_⟩
        have s3 : Same H' (upd H' q (.lst [])) := same_new nq
        refine ⟨_, _, .lst (SqL.of (s3 _ _ hD)) .nil, .lst (SqL.of upd_same) .nil, by decide +kernel, by decide +kernel, ?_⟩
        exact k _ ((s1.trans s2).trans s3)
    · have e2' : (isK d "list" || isK d "tuple") = false := by simpa using e2
      refine LK.ifF e2' ?_
      refine ⟨_, rfl, rfl, _, rfl, rfl, rfl, _, rfl, LK.ifT ?_ ⟨_, rfl, _, rfl, d, d, hx1, hy1, sh, sh, ?_⟩⟩
      · cases hx with
        | non => cases hy; rfl
        | bl b => cases hy; rfl
        | int i => cases hy; rfl
        | str x => cases hy; rfl
        | lst s a => exact absurd e2 (by simp [isK, tyN]; decide +kernel)
        | tup s a => exact absurd e2 (by simp [isK, tyN]; decide +kernel)
      · rw [SeqAt.eqv_refl d lay]
        exact k _ s1
end
end B7
namespace B7
open PySem PySem.Spec PyProof.Rows L2 LK
abbrev sKids : Stmt := top 43
/-- a loop as it is read: its thread, its parents -/
abbrev Lp := Str × List Int
def lpD (l : Lp) : PyData := .tuple [.str l.1, .tuple (l.2.map PyData.int)]
/-- the numbers of the loops that have spot among their parents -/
def kidsOf (ls : List Lp) (spot : Int) : List Nat := (List.range ls.length).filter fun k => match ls[k]? with
  | some l => decide (spot ∈ l.2)
  | none => false
def spKids (K : PySem.W.Frag) : Sp := fun vs H Q _ => ∃ (a : Addr) (spot : Int) (xs : List V) (ls : List Lp), vs = [.ref a, .int spot] ∧ SqL K H a xs ∧ DpAll K H xs (ls.map lpD) ∧ ls.length ≤ 100000 ∧
  ∀ (H' : Hp) (p : Addr), H p = none → Same H H' → H' p = some (.lst ((kidsOf ls spot).map fun k : Nat => V.int (k : Int))) → Q (.ref p) H'
theorem inV_int (i : Int) : ∀ ns : List Int, inV (.int i) (ns.map V.int) = decide (i ∈ ns)
  | [] => by simp [inV]
  | n :: r => by
    have h := inV_int i r
    unfold inV at h ⊢
    rw [List.map_cons, List.any_cons, h]
    by_cases e : n = i
    · subst e
      simp [eqV]
    · have e' : ¬ i = n := fun z => e z.symm
      simp [eqV, e, e']
theorem flat_ints (ns : List Int) : (ns.map V.int).all flatV = true := by
  rw [List.all_map]
  exact List.all_eq_true.mpr fun _ _ => rfl
theorem dp_ints {K : PySem.W.Frag} {H : Hp} : ∀ {xs : List V} {ns : List Int}, DpAll K H xs (ns.map PyData.int) → xs = ns.map V.int
  | _, [], .nil => rfl
  | _, n :: r, .cons (.int _) t => by rw [dp_ints t]; rfl
theorem filt_more (f : Nat → Bool) (n : Nat) : (List.range (n + 1)).filter f = (List.range n).filter f ++ (if f n then [n] else []) := by
  rw [List.range_succ, List.filter_append]
  congr 1
  simp [List.filter_cons]
section
variable {P : Program} {w : World} {K : PySem.W.Frag} {mg : Str → Option Value} {base : Heap}
theorem scKids : FnScope ["loops_here", "spot", "k"] ["loops_here", "spot"] (defScope sKids) := ⟨rfl, rfl, rfl, by decide +kernel, rfl, by decide +kernel, by decide +kernel⟩
theorem inq {X : Cx} {K : PySem.W.Frag} (e : X.K = K := by rfl) : OpR X (compareOp .In) (rIn K false) := e ▸ op_in_seq
theorem ok_kids {f : Addr} {fd : FuncData} (F : Fun K "_law_kids" "_law_kids" sKids f fd) (B : Bl mg) : FnOk P w K mg base CX0 1 f fd ["loops_here", "spot"] (spKids K) := by
  refine F.ok scKids (fun vs H Q E h => ?_) (fun cdv A outer s H vs Q E hr h => ?_)
  · obtain ⟨a, spot, xs, ls, rfl, _⟩ := h
    rfl
  · obtain ⟨a, spot, xs, ls, rfl, hs, hd, hl, k⟩ := h
    have len : xs.length = ls.length := by rw [dps_len hd, List.length_map]
    refine ⟨_, pss_one (ps_ret (pe_lc (own := [("k", 2)]) (g := gName 2) rfl scKids.nd (pi_range1 (by rfl) (B "range" (by decide)) (pa_cons (pe_callB call_len_seq (by rfl) (B "len" (by decide)) (by decide +kernel) (pa_cons (pv 0) pa_nil)) pa_nil)) (blkOk_by (N := ["loops_here", "spot", "k"]) (sc := defScope sKids) (by decide +kernel)) (fun _ _ _ _ _ => pg_name (i := 2) scKids.nd rfl (Or.inl rfl)) (fun _ _ _ _ _ => pts_one (pt_cmpR (inq (K := K)) (pv 1) (pe_ix (ixt (K := K)) (pe_ix (ixl (K := K)) (pv 0) (pv 2) (fun _ _ => rfl)) pe_int (fun _ _ => rfl)) (by rfl))) (fun _ _ _ _ _ => pv 2))), ?_⟩
    refine ⟨_, rfl, a, _, rfl, .inl hs, (xs.length : Int), rfl, by omega, by omega, fun D nD => ?_⟩
    refine lc_range (lo := 0) (n := xs.length) (fun j H' => Same H H' ∧ H' D = some (.lst (((List.range j).filter fun k => match ls[k]? with
      | some l => decide (spot ∈ l.2)
      | none => false).map fun k : Nat => V.int (k : Int)))) ⟨same_new nD, upd_same⟩ (fun j H' hj hh => ⟨rfl, ?_⟩) (fun H' hh => ?_)
    · obtain ⟨s1, hD⟩ := hh
      obtain ⟨v1, d1, q1, q2, q3⟩ := dps_at (dps_same s1 hd) (i := j) (by rw [List.length_map]; omega)
      rw [List.getElem?_map] at q2
      obtain ⟨l, hl1, rfl⟩ := Option.map_eq_some_iff.mp q2
      cases q3 with
      | tup st da =>
        cases da with
        | cons d1 da =>
          cases d1
          cases da with
          | cons d2 dn =>
            cases dn
            cases d2 with
            | tup st2 da2 =>
              have ex := dp_ints da2
              subst ex
              refine ⟨_, rfl, _, rfl, _, rfl, a, _, _, _, rfl, rfl, s1.seq hs, (by rw [Int.zero_add]; exact atI_nat q1), _, _, _, _, rfl, rfl, st, atI_nat (j := 1) rfl, ?_⟩
              refine ⟨_, _, rfl, .inr st2, rfl, flat_ints _, _, rfl, ?_⟩
              show if inV (.int spot) (l.2.map V.int) = true then _ else _
              rw [inV_int, filt_more]
              simp only [hl1]
              by_cases c : spot ∈ l.2
              · rw [decide_eq_true c]
                refine LK.ifT rfl ⟨_, rfl, _, hD, ?_, (fun b o e => ?_), ?_⟩
                · rw [List.length_map]
                  have z := List.length_filter_le (fun k => match ls[k]? with
                    | some l => decide (spot ∈ l.2)
                    | none => false) (List.range j)
                  rw [List.length_range] at z
                  exact Nat.lt_of_le_of_lt z (Nat.lt_of_lt_of_le (Nat.lt_of_lt_of_le hj (by omega : xs.length ≤ 100000)) (by decide))
                · rw [upd_ne (ne_of_none e nD)]
                  exact s1 b o e
                · rw [upd_same]
                  simp
              · rw [decide_eq_false c]
                refine LK.ifF rfl ⟨s1, ?_⟩
                simpa using hD
    · obtain ⟨s1, hD⟩ := hh
      refine k H' D nD s1 ?_
      rw [hD, len]
      rfl
end
end B7
/-! Threads: the laws' letters, the words made of them. -/
namespace LK
open PySem PySem.Spec PyProof.Rows L2
def abc : Str := "abcdefghijklmnopqrstuvwxyz"
/-- the letter of number m -/
def lett (m : Nat) : Str := ⟨#[97 + m]⟩
theorem abc_len : abc.length ≤ sizeLine := by decide +kernel
theorem abc_at {i : Int} (h0 : 0 ≤ i) (h : i < 26) : atI abc.cps.toList i = some (97 + i.toNat) := by
  obtain ⟨n, rfl⟩ := Int.eq_ofNat_of_zero_le h0
  have : ∀ n < 26, atI abc.cps.toList ((n : Nat) : Int) = some (97 + n) := by decide +kernel
  exact this n (by omega)
/-- one to eight small letters -/
def Lt (z : Str) : Prop := ∀ c ∈ z.cps.toList, 97 ≤ c ∧ c ≤ 122
def Yn (z : Str) : Prop := 1 ≤ z.length ∧ z.length ≤ 8 ∧ Lt z
theorem len_app (x y : Str) : (x ++ y).length = x.length + y.length := by
  show (x ++ y).cps.size = x.cps.size + y.cps.size
  rw [PySem.Str.cps_append, Array.size_append]
theorem lt_app {x y : Str} (a : Lt x) (b : Lt y) : Lt (x ++ y) := fun c h => by
  rw [PySem.Str.cps_append, Array.toList_append, List.mem_append] at h
  exact h.elim (a c) (b c)
theorem lt_lett {m : Nat} (h : m < 26) : Lt (lett m) := fun c e => by
  have : c = 97 + m := by simpa [lett] using e
  omega
theorem len_lett (m : Nat) : (lett m).length = 1 := rfl
theorem lt_cut {z : Str} (h : Lt z) (lo hi : Option Int) : Lt (cutS z lo hi) := fun c e => by
  refine h c ?_
  unfold cutS at e
  simp only [] at e
  exact List.mem_of_mem_drop (List.mem_of_mem_take e)
theorem join_lt : ∀ (ys : List Str), (∀ y ∈ ys, Lt y) → Lt (Str.join "" ys) ∧ (Str.join "" ys).length = (ys.map (·.length)).sum
  | [], _ => ⟨fun c e => by rw [show (Str.join "" []).cps.toList = [] by decide +kernel] at e; exact absurd e List.not_mem_nil, rfl⟩
  | [y], h => ⟨h y (List.mem_cons_self ..), by simp [Str.join]⟩
  | y :: z :: r, h => by
    obtain ⟨a, b⟩ := join_lt (z :: r) fun x hx => h x (List.mem_cons_of_mem _ hx)
    have e0 : Lt ("" : Str) := fun c e => by rw [show ("" : Str).cps.toList = [] by decide +kernel] at e; exact absurd e List.not_mem_nil
    have z0 : ("" : Str).length = 0 := by decide +kernel
    refine ⟨lt_app (lt_app (h y (List.mem_cons_self ..)) e0) a, ?_⟩
    show (y ++ "" ++ Str.join "" (z :: r)).length = _
    rw [len_app, len_app, b, z0]
    simp only [List.map_cons, List.sum_cons]
    omega
theorem sum_ones : ∀ (ys : List Str), (∀ y ∈ ys, y.length = 1) → (ys.map (·.length)).sum = ys.length
  | [], _ => rfl
  | y :: r, h => by
    rw [List.map_cons, List.sum_cons, h y (List.mem_cons_self ..), sum_ones r fun x hx => h x (List.mem_cons_of_mem _ hx), List.length_cons, Nat.add_comm]
theorem join_ab (ys : List Str) (h : ∀ y ∈ ys, Lt y ∧ y.length = 1) : Lt (Txt.join "" ys) ∧ (Txt.join "" ys).length = ys.length := by
  show Lt (Builtin.Str.glued "" ys) ∧ (Builtin.Str.glued "" ys).length = _
  rw [StrLaws.glued_eq_join]
  obtain ⟨a, b⟩ := join_lt ys fun y hy => (h y hy).1
  exact ⟨a, b.trans (sum_ones ys fun y hy => (h y hy).2)⟩
theorem app_inj {m n k : Nat} (e : lett m ++ lett k = lett n ++ lett k) : m = n := by
  have e1 : (lett m ++ lett k).cps.toList = (lett n ++ lett k).cps.toList := by rw [e]
  rw [PySem.Str.cps_append, PySem.Str.cps_append, Array.toList_append, Array.toList_append] at e1
  simp [lett] at e1
  exact e1
/-- more pigeons than holes -/
theorem sub_len {α : Type} [DecidableEq α] : ∀ (xs ys : List α), xs.Nodup → (∀ x ∈ xs, x ∈ ys) → xs.length ≤ ys.length
  | [], _, _, _ => Nat.zero_le _
  | x :: r, ys, nd, h => by
    have hx := h x (List.mem_cons_self ..)
    have l := List.length_erase_of_mem hx
    have p : 0 < ys.length := List.length_pos_of_mem hx
    have nd' := List.nodup_cons.mp nd
    have := sub_len r (ys.erase x) nd'.2 fun y hy => (List.mem_erase_of_ne (fun e => nd'.1 (by rw [← e]; exact hy))).mpr (h y (List.mem_cons_of_mem _ hy))
    simp only [List.length_cons]
    omega
theorem hole {α : Type} [DecidableEq α] (xs ys : List α) (nd : xs.Nodup) (l : ys.length < xs.length) : ∃ x ∈ xs, x ∉ ys := by
  by_cases h : ∃ x ∈ xs, x ∉ ys
  · exact h
  · have := sub_len xs ys nd fun x hx => by
      by_cases e : x ∈ ys
      · exact e
      · exact absurd ⟨x, hx, e⟩ h
    omega
/-- the words that are spare -/
def spare (s k : Nat) : List Str := (List.range 26).map fun t => lett ((s + t) % 26) ++ lett k
theorem spare_nodup (s k : Nat) (h : s < 26) : (spare s k).Nodup := by
  have nd : ∀ s < 26, ((List.range 26).map fun t => (s + t) % 26).Nodup := by decide +kernel
  have e : spare s k = ((List.range 26).map fun t => (s + t) % 26).map fun m => lett m ++ lett k := by
    unfold spare
    rw [List.map_map]
    rfl
  rw [e]
  exact List.Pairwise.map _ (fun a b ne q => ne (app_inj q)) (nd s h)
theorem spare_yn {s k : Nat} (hk : k < 26) {w : Str} (h : w ∈ spare s k) : Yn w := by
  obtain ⟨t, _, rfl⟩ := List.mem_map.mp h
  refine ⟨?_, ?_, lt_app (lt_lett (Nat.mod_lt _ (by decide))) (lt_lett hk)⟩
  · rw [len_app, len_lett, len_lett]
    decide
  · rw [len_app, len_lett, len_lett]
    decide
theorem spare_free {s k : Nat} (h : s < 26) (found : List Str) (l : found.length < 26) : (spare s k).filter (fun w => decide (w ∉ found)) ≠ [] := by
  obtain ⟨w, hw, n⟩ := hole (spare s k) found (spare_nodup s k h) (by rw [spare, List.length_map, List.length_range]; exact l)
  intro e
  have : w ∈ (spare s k).filter (fun w => decide (w ∉ found)) := List.mem_filter.mpr ⟨hw, decide_eq_true n⟩
  rw [e] at this
  exact List.not_mem_nil this
theorem cut_max (z : Str) (lo hi : Option Int) : (cutS z lo hi).length ≤ HT.sIx z.length z.length hi - HT.sIx z.length 0 lo := by
  show (((z.cps.toList.drop (HT.sIx z.length 0 lo)).take (HT.sIx z.length z.length hi - HT.sIx z.length 0 lo)).toArray).size ≤ _
  rw [List.size_toArray, List.length_take]
  exact Nat.min_le_left _ _
theorem cut_seven (z : Str) : (cutS z none (some 7)).length ≤ 7 := by
  refine Nat.le_trans (cut_max z _ _) ?_
  rw [show HT.sIx z.length z.length (some 7) = min 7 z.length from HT.sIx_nat _ _ 7, HT.sIx_none]
  omega
theorem cut_last {z : Str} (h : z.length ≤ 8) : (cutS z none (some (-1))).length ≤ 7 := by
  refine Nat.le_trans (cut_max z _ _) ?_
  have : HT.sIx z.length z.length (some (-1)) = ((-1 : Int) + (z.length : Int)).toNat := rfl
  rw [this, HT.sIx_none]
  omega
theorem yn_one {y : Str} (m : Nat) (hm : m < 26) (l : y.length ≤ 7) (h : Lt y) : Yn (y ++ lett m) := by
  refine ⟨?_, ?_, lt_app h (lt_lett hm)⟩ <;> (rw [len_app, len_lett]; omega)
/-- texts of small letters are read as data -/
theorem ok_lt {z : Str} (h : Lt z) : PyData.canLay0 (.str z) = true := by
  show z.cps.all (· < 0x110000) = true
  rw [Array.all_eq_true_iff_forall_mem]
  intro c hc
  have := h c (by simpa using hc)
  exact decide_eq_true (by omega)
theorem lay_strs : ∀ ys : List Str, (∀ y ∈ ys, Lt y) → PyData.canLayAll0 (ys.map PyData.str) = true ∧ PyData.depthAll (ys.map PyData.str) ≤ 1
  | [], _ => ⟨rfl, by decide⟩
  | y :: r, h => by
    obtain ⟨a, b⟩ := lay_strs r fun x hx => h x (List.mem_cons_of_mem _ hx)
    constructor
    · rw [List.map_cons, PyData.canLayAll0, ok_lt (h y (List.mem_cons_self ..)), a]
      rfl
    · simp only [List.map_cons, PyData.depthAll, PyData.depth]
      omega
theorem dp_strs {K : PySem.W.Frag} {H : Hp} : ∀ ys : List Str, DpAll K H (ys.map V.str) (ys.map PyData.str)
  | [] => .nil
  | y :: r => .cons (.str y) (dp_strs r)
theorem sh_strs {ys : List Str} (h : ∀ y ∈ ys, Lt y) : SeqAt.shaped (.list (ys.map PyData.str)) = true := by
  obtain ⟨a, b⟩ := lay_strs ys h
  refine shaped_of (by simpa only [PyData.canLay0] using a) ?_
  simp only [PyData.depth]
  omega
theorem eqv_nil (ys : List Str) : PyData.eqv (.list (ys.map PyData.str)) (.list []) = ys.isEmpty := by
  cases ys with
  | nil => rfl
  | cons y r => rfl
theorem at_last {ys : List Str} (h : ys ≠ []) : ∃ y ∈ ys, atI (ys.map V.str) (-1) = some (.str y) := by
  refine ⟨ys.getLast h, List.getLast_mem h, ?_⟩
  have e : ys.map V.str = ys.dropLast.map V.str ++ [V.str (ys.getLast h)] := by
    have := congrArg (List.map V.str) (List.dropLast_concat_getLast h)
    rw [List.map_append] at this
    exact this.symm
  rw [e]
  exact atI_last _ _
theorem inV_str (y : Str) : ∀ ys : List Str, inV (.str y) (ys.map V.str) = decide (y ∈ ys)
  | [] => by simp [inV]
  | x :: r => by
    have h := inV_str y r
    unfold inV at h ⊢
    rw [List.map_cons, List.any_cons, h]
    by_cases e : x = y
    · subst e
      simp [eqV]
    · have e' : ¬ y = x := fun z => e z.symm
      simp [eqV, e, e']
theorem flat_strs (ys : List Str) : (ys.map V.str).all flatV = true := by
  rw [List.all_map]
  exact List.all_eq_true.mpr fun _ _ => rfl
/-- the rest, from a word that holds at its start -/
theorem seqJ {A R : TS} {D : Ends} {σ : St} {H : Hp} (J : St → Hp → Prop) (hR : ∀ σ' H', J σ' H' → R D σ' H') (h : (∀ σ' H', J σ' H' → R D σ' H') → tSeq A R D σ H) : tSeq A R D σ H := h hR
end LK
namespace B7
open PySem PySem.Spec PyProof.Rows L2 LK
abbrev sYarns : Stmt := top 42
/-- a list of texts at D -/
def Ys (H : Hp) (D : Addr) (ys : List Str) : Prop := H D = some (.lst (ys.map V.str))
/-- many threads, drawn -/
def spYarns : Sp := fun vs H Q _ => ∃ (c : Addr) (many B : Nat), vs = [.ref c, .int many] ∧ many ≤ 25 ∧ CR H c B ∧ B + 1000 < 10 ^ 12 ∧
  ∀ (D : Addr) (H' : Hp) (ys : List Str), H D = none → CR H' c (B + 1000) → Bt c H H' → Ys H' D ys → ys.length = many → (∀ y ∈ ys, Yn y) → Q (.ref D) H'
/-- what stays through the turns -/
def Wd (H Hn : Hp) (c D : Addr) (B : Nat) (ys : List Str) : Prop := c ≠ D ∧ CR Hn c B ∧ Bt c H Hn ∧ Ys Hn D ys
theorem Wd.call {H Hn H' : Hp} {c D : Addr} {B : Nat} {ys : List Str} (h : Wd H Hn c D B ys) (h1 : CR H' c (B + 1)) (bt : Bt c Hn H') : Wd H H' c D (B + 1) ys := ⟨h.1, h1, h.2.2.1.trans bt, bt _ _ h.1.symm h.2.2.2⟩
theorem Wd.new {H Hn : Hp} {c D p : Addr} {B : Nat} {ys : List Str} {o : HO} (h : Wd H Hn c D B ys) (np : Hn p = none) : Wd H (upd Hn p o) c D B ys :=
  ⟨h.1, h.2.1.same (same_new np), h.2.2.1.trans (Bt.of (same_new np)), same_new np _ _ h.2.2.2⟩
theorem Wd.gone {H Hn : Hp} {c D p : Addr} {B : Nat} {ys : List Str} (h : Wd H Hn c D B ys) (np : Hn p = none) : H p = none ∧ p ≠ c ∧ p ≠ D := by
  have pc : p ≠ c := (h.2.1.fresh np).symm
  refine ⟨?_, pc, (ne_of_none h.2.2.2 np).symm⟩
  cases e : H p with
  | none => rfl
  | some o => rw [h.2.2.1 p o pc e] at np; cases np
theorem Wd.upd {H Hn : Hp} {c D p : Addr} {B : Nat} {ys : List Str} {o : HO} (h : Wd H Hn c D B ys) (g : H p = none ∧ p ≠ c ∧ p ≠ D) : Wd H (upd Hn p o) c D B ys :=
  ⟨h.1, h.2.1.upd g.2.1, fun b u n e => by rw [upd_ne (ne_of_none e g.1)]; exact h.2.2.1 b u n e, by unfold Ys; rw [upd_ne g.2.2.symm]; exact h.2.2.2⟩
theorem Wd.mono {H Hn : Hp} {c D : Addr} {B B' : Nat} {ys : List Str} (h : Wd H Hn c D B ys) (l : B ≤ B') : Wd H Hn c D B' ys := ⟨h.1, h.2.1.mono l, h.2.2⟩
theorem Wd.app {H Hn : Hp} {c D : Addr} {B : Nat} {ys : List Str} (h : Wd H Hn c D B ys) (nD : H D = none) (y : Str) : Wd H (L2.upd Hn D (.lst (ys.map V.str ++ [V.str y]))) c D B (ys ++ [y]) :=
  ⟨h.1, h.2.1.upd h.1.symm, fun b u n e => by rw [upd_ne (ne_of_none e nD)]; exact h.2.2.1 b u n e, by unfold Ys; rw [upd_same, List.map_append]; rfl⟩
theorem pick3 {d : Int} {k : Int} (d0 : 0 ≤ d) (d1 : d < 8) (k0 : 0 ≤ k) (k1 : k < 3) : ∃ z : Int, 0 ≤ z ∧ z < 8 ∧ atI [V.int 0, .int 1, .int d] k = some (.int z) := by
  obtain rfl | rfl | rfl : k = 0 ∨ k = 1 ∨ k = 2 := by omega
  · exact ⟨0, by decide, by decide, rfl⟩
  · exact ⟨1, by decide, by decide, rfl⟩
  · exact ⟨d, d0, d1, rfl⟩
section
variable {P : Program} {w : World} {K : PySem.W.Frag} {mg : Str → Option Value} {base : Heap}
theorem scYarns : FnScope ["creel", "many", "signs", "found", "k", "size", "sign", "yarn", "spare", "turn", "word"] ["creel", "many"] (defScope sYarns) := ⟨rfl, rfl, rfl, by decide +kernel, rfl, by decide +kernel, by decide +kernel⟩
theorem ninq {X : Cx} {K : PySem.W.Frag} (e : X.K = K := by rfl) : OpR X (compareOp .NotIn) (rIn K true) := e ▸ op_notIn_seq
theorem ok_yarns {f fp : Addr} {fd fdp : FuncData} (F : Fun K "_law_yarns" "_law_yarns" sYarns f fd) (Fp : Fun K "_law_ply" "_law_ply" sPly fp fdp) (B : Bl mg) (gp : mg "_law_ply" = some (.ref fp)) (bp : Binds K fdp ["creel", "span"] []) (Gp : FnOk P w K mg base CX0 1 fp fdp ["creel", "span"] spPly) :
    FnOk P w K mg base CX0 2 f fd ["creel", "many"] spYarns := by
  refine F.ok scYarns (fun vs H Q E h => ?_) (fun cdv A outer s H vs Q E hr h => ?_)
  · obtain ⟨c, many, bb, rfl, _⟩ := h
    rfl
  · obtain ⟨c, many, bb, rfl, hm, hc, hB, k⟩ := h
    refine ⟨_, pss_cons (ps_asg (pe_tup (pa_cons pe_str (pa_cons (pe_lst pa_nil) pa_nil))) (pg_tup rfl (pgs_cons (pg_name (i := 2) scYarns.nd rfl (Or.inr rfl)) (pgs_cons (pg_name (i := 3) scYarns.nd rfl (Or.inr rfl)) pgs_nil))))
      (pss_cons (ps_for PassesOwn.never rfl (pi_range1 (by rfl) (B "range" (by decide)) (pa_cons (pv 1) pa_nil)) (pg_name (i := 4) scYarns.nd rfl (Or.inr rfl)) (pss_cons (ps_asg (pe_tup (pa_cons (pe_ix ix_list (pe_lst (pa_cons pe_int (pa_cons pe_int (pa_cons (pe_call (E := E0) Gp hr rfl gp Fp.kp bp .nil pass0 (pa_cons (pv 0) (pa_cons pe_int pa_nil))) pa_nil)))) (pe_call (E := E0) Gp hr rfl gp Fp.kp bp .nil pass0 (pa_cons (pv 0) (pa_cons pe_int pa_nil))) (fun _ _ => rfl)) (pa_cons (pe_call (E := E0) Gp hr rfl gp Fp.kp bp .nil pass0 (pa_cons (pv 0) (pa_cons pe_int pa_nil))) pa_nil))) (pg_tup rfl (pgs_cons (pg_name (i := 5) scYarns.nd rfl (Or.inl rfl)) (pgs_cons (pg_name (i := 6) scYarns.nd rfl (Or.inr rfl)) pgs_nil))))
      (pss_cons (ps_set (i := 7) scYarns.nd rfl (Or.inl rfl) (pe_op op_add_str (pe_ix ix_str (pv 2) (pv 6) (fun _ _ => rfl)) (pe_join pe_str (pe_lc (own := [("turn", 9)]) (g := gName 9) (tt := tYes) rfl scYarns.nd (pi_range1 (by rfl) (B "range" (by decide)) (pa_cons (pv 5) pa_nil)) (blkOk_by (N := ["creel", "many", "signs", "found", "k", "size", "sign", "yarn", "spare", "turn", "word"]) (sc := defScope sYarns) (by decide +kernel)) (fun _ _ _ _ _ => pg_name (i := 9) scYarns.nd rfl (Or.inl rfl)) (fun _ _ _ _ _ => pts_nil) (fun _ _ _ _ _ => pe_ix ix_str (pv 2) (pe_call (E := E0) Gp hr rfl gp Fp.kp bp .nil pass0 (pa_cons (pv 0) (pa_cons pe_int pa_nil))) (fun _ _ => rfl))))))
      (pss_cons (ps_if (PW.pt (pw_and (pt_cmpR (op_neD hr.units) (pv 3) (pe_lst pa_nil) (nomark _)) (pw_and1 (pt_cmpR op_eq (pe_call (E := E0) Gp hr rfl gp Fp.kp bp .nil pass0 (pa_cons (pv 0) (pa_cons pe_int pa_nil))) pe_int (nomark _))))) (pss_one (ps_set (i := 7) scYarns.nd rfl (Or.inl rfl) (pe_ix ix_list (pe_lst (pa_cons (pe_op op_add_str (pe_slice sl_str (pe_ix ix_list (pv 3) (pe_un un_neg pe_int) (fun _ _ => rfl)) po_none (po_some pe_int)) (pe_ix ix_str (pv 2) (pv 6) (fun _ _ => rfl))) (pa_cons (pe_op op_add_str (pe_slice sl_str (pe_ix ix_list (pv 3) (pe_un un_neg pe_int) (fun _ _ => rfl)) po_none (po_some (pe_un un_neg pe_int))) (pe_ix ix_str (pv 2) (pv 6) (fun _ _ => rfl))) pa_nil))) (pe_call (E := E0) Gp hr rfl gp Fp.kp bp .nil pass0 (pa_cons (pv 0) (pa_cons pe_int pa_nil))) (fun _ _ => rfl)))) pss_nil)
      (pss_cons (ps_setLc (i := 8) (own := [("turn", 9)]) (g := gName 9) (tt := tYes) rfl scYarns.nd rfl rfl (sw_true rfl rfl rfl (by decide +kernel)) (pi_range1 (by rfl) (B "range" (by decide)) (pa_cons pe_int pa_nil)) (blkOk_by (N := ["creel", "many", "signs", "found", "k", "size", "sign", "yarn", "spare", "turn", "word"]) (sc := defScope sYarns) (by decide +kernel)) (fun _ _ _ _ _ => pg_name (i := 9) scYarns.nd rfl (Or.inl rfl)) (fun _ _ _ _ _ => pts_nil) (fun _ _ _ _ _ => pe_op op_add_str (pe_ix ix_str (pv 2) (pe_op op_mod (pe_op op_add (pv 6) (pv 9)) pe_int) (fun _ _ => rfl)) (pe_ix ix_str (pv 2) (pv 4) (fun _ _ => rfl))))
      (pss_one (ps_expr (pe_bm PySem.F.plainAttrs_list PySem.F.slot_list_append PySem.F.type_list_append mt_append (pv 3) (pa_cons (pe_ifExp (pt_cmpR op_notIn_seq (pv 7) (pv 3) (by rfl)) (pv 7) (pe_ix ix_list (pe_lc (own := [("word", 10)]) (g := gName 10) rfl scYarns.nd (pi_list (pv 8)) (blkOk_by (N := ["creel", "many", "signs", "found", "k", "size", "sign", "yarn", "spare", "turn", "word"]) (sc := defScope sYarns) (by decide +kernel)) (fun _ _ _ _ _ => pg_name (i := 10) scYarns.nd rfl (Or.inl rfl)) (fun _ _ _ _ _ => pts_one (pt_cmpR (ninq (K := K)) (pv 10) (pv 3) (by rfl))) (fun _ _ _ _ _ => pv 10)) pe_int (fun _ _ => rfl))) pa_nil)))))))))
      (pss_one (ps_ret (pv 3)))), ?_⟩
    refine ⟨(by show 0 ≤ sizeLine; decide), fun D nD => ⟨(by show 2 ≤ sizeLine; decide), fun T nT => ⟨T, _, rfl, .inl (.inl upd_same), rfl, _, _, rfl, _, _, rfl, rfl, ?_⟩⟩⟩
    have cD : c ≠ D := hc.fresh nD
    have cT : c ≠ T := by
      intro e
      subst e
      obtain ⟨_, _, _, e, _⟩ := hc
      rw [upd_ne cD, e] at nT
      cases nT
    have DT : D ≠ T := by
      intro e
      subst e
      rw [upd_same] at nT
      cases nT
    refine ⟨_, rfl, (many : Int), rfl, by omega, by omega, ?_⟩
    refine for_range (lo := 0) (n := many) (fun i σ H' => ∃ (ys : List Str) (o4 o5 o6 o7 o8 : Option V), σ = [some (.ref c), some (.int many), some (.str abc), some (.ref D), o4, o5, o6, o7, o8, none, none] ∧ ys.length = i ∧ (∀ y ∈ ys, Yn y) ∧ Wd H H' c D (bb + 40 * i) ys)
      ⟨[], _, _, _, _, _, rfl, rfl, fun y h => absurd h List.not_mem_nil, cD, (hc.upd cD.symm).upd cT.symm, fun b o _ e => same_new nT _ _ (same_new nD _ _ e), by unfold Ys; rw [upd_ne DT, upd_same]; rfl⟩ (fun i σ H1 hi hI => ?_) (fun σ H1 hI => ?_)
    · obtain ⟨ys, o4, o5, o6, o7, o8, rfl, hl, hn, hw⟩ := hI
      refine ⟨_, rfl, c, 8, _, rfl, by decide, by decide, hw.2.1, by omega, fun d1 H2 d10 d11 h2 b2 n2 => ?_⟩
      have hw2 := hw.call h2 b2
      refine ⟨(by show 3 ≤ sizeLine; decide), fun L nL => ?_⟩
      have hw3 := hw2.new (o := .lst [.int 0, .int 1, .int d1]) nL
      refine ⟨_, rfl, c, 3, _, rfl, by decide, by decide, hw3.2.1, by omega, fun d3 H3 d30 d31 h3 b3 n3 => ?_⟩
      have hw4 := hw3.call h3 b3
      have hL : H3 L = some (.lst [.int 0, .int 1, .int d1]) := b3 _ _ (hw2.2.1.fresh nL).symm upd_same
      obtain ⟨z, z0, z1, hz⟩ := pick3 d10 d11 d30 d31
      refine ⟨L, _, _, _, rfl, rfl, SqL.of hL, hz, ?_⟩
      refine ⟨_, rfl, c, 26, _, rfl, by decide, by decide, hw4.2.1, by omega, fun d4 H4 d40 d41 h4 b4 n4 => ?_⟩
      have hw5 := hw4.call h4 b4
      refine ⟨(by show 2 ≤ sizeLine; decide), fun T2 nT2 => ⟨T2, _, rfl, .inl (.inl upd_same), rfl, _, _, rfl, _, _, rfl, rfl, ?_⟩⟩
      have hw6 := hw5.new (o := .tup [.int z, .int d4]) nT2
      refine ⟨_, rfl, _, rfl, abc, d4, _, rfl, rfl, abc_len, abc_at d40 d41, ?_⟩
      refine ⟨⟨_, rfl⟩, _, rfl, z, rfl, by omega, by omega, fun G nG => ?_⟩
      have gG := hw6.gone nG
      refine lc_range (lo := 0) (n := z.toNat) (fun j H' => ∃ zs : List Str, H' G = some (.lst (zs.map V.str)) ∧ zs.length = j ∧ (∀ y ∈ zs, Lt y ∧ y.length = 1) ∧ Wd H H' c D (bb + 40 * i + 3 + j) ys) ⟨[], upd_same, rfl, fun y h => absurd h List.not_mem_nil, hw6.upd gG⟩ (fun j H' hj hh => ⟨rfl, ?_⟩) (fun H' hh => ?_)
      · obtain ⟨zs, hG, hzl, hzs, hw7⟩ := hh
        refine ⟨_, rfl, _, rfl, c, 26, _, rfl, by decide, by decide, hw7.2.1, by omega, fun d5 H5 d50 d51 h5 b5 n5 => ?_⟩
        refine ⟨abc, d5, _, rfl, rfl, abc_len, abc_at d50 d51, _, b5 _ _ gG.2.1 hG, ?_, zs ++ [lett d5.toNat], ?_, ?_, ?_, ?_⟩
        · rw [List.length_map, hzl]
          have : j < 8 := by omega
          exact Nat.lt_of_lt_of_le this (by decide)
        · rw [upd_same, List.map_append]
          rfl
        · rw [List.length_append, hzl]
          rfl
        · intro y hy
          rcases List.mem_append.mp hy with hy | hy
          · exact hzs y hy
          · obtain rfl := List.mem_singleton.mp hy
            exact ⟨lt_lett (by omega), rfl⟩
        · exact (hw7.call h5 b5).upd gG
      · obtain ⟨zs, hG, hzl, hzs, hw7⟩ := hh
        obtain ⟨jl, jn⟩ := join_ab zs hzs
        have y1 : Yn (lett d4.toNat ++ Txt.join "" zs) := by
          refine ⟨?_, ?_, lt_app (lt_lett (by omega)) jl⟩
          · rw [len_app, jn, hzl, len_lett]
            omega
          · rw [len_app, jn, hzl, len_lett]
            omega
        have s1 := sum_ones zs fun y hy => (hzs y hy).2
        refine ⟨_, _, zs, rfl, rfl, .inl (SqL.of hG), ?_, _, _, rfl, rfl, ?_, ?_⟩
        · rw [s1, hzl]
          have : ("" : Str).length = 0 := by decide +kernel
          rw [this]
          omega
        · rw [jn, hzl]
          have : (lett d4.toNat).length + z.toNat ≤ 8 := by
            rw [len_lett]
            omega
          exact Nat.le_trans this (by decide)
        have hw8 := hw7.mono (B' := bb + 40 * i + 10) (by omega)
        have d4n : d4.toNat < 26 := by omega
        dsimp only [gName]
        refine seqJ (fun σ' H' => ∃ y : Str, σ' = [some (.ref c), some (.int many), some (.str abc), some (.ref D), some (.int (0 + (i : Int))), some (.int z), some (.int d4), some (.str y), o8, none, none] ∧ Yn y ∧ Wd H H' c D (bb + 40 * i + 12) ys) (fun σ' H8 hJ => ?_) (fun go => ?_)
        · obtain ⟨y, rfl, hy, hw9⟩ := hJ
          -- the spare words
          have iz : (0 + (i : Int)) = (i : Int) := Int.zero_add _
          refine ⟨26, rfl, by decide, by decide, fun S nS => ?_⟩
          have gS := hw9.gone nS
          refine lc_range (lo := 0) (n := 26) (fun j H' => H' S = some (.lst (((List.range j).map fun t => lett ((d4.toNat + t) % 26) ++ lett i).map V.str)) ∧ Wd H H' c D (bb + 40 * i + 12) ys) ⟨upd_same, hw9.upd gS⟩ (fun j H' hj hh => ⟨rfl, ?_⟩) (fun H' hh => ?_)
          · obtain ⟨hS, hwe⟩ := hh
            have m0 : 0 ≤ (d4 + (0 + (j : Int))) % 26 := Int.emod_nonneg _ (by decide)
            have m1 : (d4 + (0 + (j : Int))) % 26 < 26 := Int.emod_lt_of_pos _ (by decide)
            have m2 : ((d4 + (0 + (j : Int))) % 26).toNat = (d4.toNat + j) % 26 := by omega
            refine ⟨_, rfl, _, rfl, _, rfl, d4, _, rfl, rfl, _, _, rfl, rfl, (show (0 : Int) < 26 by decide), abc, _, _, rfl, rfl, abc_len, abc_at m0 m1, ?_⟩
            refine ⟨_, rfl, _, rfl, abc, (0 + (i : Int)), _, rfl, rfl, abc_len, abc_at (by omega) (by omega), _, _, rfl, rfl, ?_, _, hS, ?_, ?_, hwe.upd gS⟩
            · show 1 + 1 ≤ sizeLine
              decide
            · rw [List.length_map, List.length_map, List.length_range]
              exact Nat.lt_trans hj (by decide)
            · rw [upd_same, List.range_succ, List.map_append, List.map_append, m2]
              have : (0 + (i : Int)).toNat = i := by omega
              rw [this]
              rfl
          · obtain ⟨hS, hwe⟩ := hh
            have hS' : H' S = some (.lst ((spare d4.toNat i).map V.str)) := hS
            refine ⟨_, rfl, .inl ⟨rfl, _, SqL.of hwe.2.2.2⟩, _, rfl, _, rfl, D, _, rfl, .inl (SqL.of hwe.2.2.2), rfl, LK.flat_strs ys, _, rfl, ?_⟩
            have yl : (ys.map V.str).length < sizeLine := by
              rw [List.length_map, hl]
              exact Nat.lt_of_lt_of_le (by omega : i < 100) (by decide)
            show if (!inV (.str y) (ys.map V.str)) = true then _ else _
            rw [inV_str]
            by_cases hin : y ∈ ys
            · rw [decide_eq_true hin]
              refine LK.ifF rfl ?_
              refine ⟨_, rfl, S, rfl, ⟨_, SqL.of hS'⟩, fun G2 nG2 => ?_⟩
              have gG2 := hwe.gone nG2
              have sG2 : S ≠ G2 := ne_of_none hS' nG2
              refine lc_list (K := K) (a := S) (xs := (spare d4.toNat i).map V.str) (fun j H' => H' G2 = some (.lst ((((spare d4.toNat i).take j).filter fun w => decide (w ∉ ys)).map V.str)) ∧ H' S = some (.lst ((spare d4.toNat i).map V.str)) ∧ Wd H H' c D (bb + 40 * i + 12) ys)
                ⟨upd_same, by rw [upd_ne sG2]; exact hS', hwe.upd gG2⟩ (fun j H' hj hh => SqL.of hh.2.1) (fun j x H' hx hh => ⟨rfl, ?_⟩) (fun H' hh => ?_)
              · obtain ⟨h1, h2, h3⟩ := hh
                rw [List.getElem?_map] at hx
                obtain ⟨w1, hw1, rfl⟩ := Option.map_eq_some_iff.mp hx
                refine ⟨_, rfl, _, rfl, D, _, rfl, .inl (SqL.of h3.2.2.2), rfl, LK.flat_strs ys, _, rfl, ?_⟩
                show if (!inV (.str w1) (ys.map V.str)) = true then _ else _
                have tk : (spare d4.toNat i).take (j + 1) = (spare d4.toNat i).take j ++ [w1] := by
                  rw [List.take_succ, hw1]
                  rfl
                rw [inV_str, tk, List.filter_append]
                by_cases hin1 : w1 ∈ ys
                · rw [decide_eq_true hin1]
                  refine LK.ifF rfl ⟨?_, h2, h3⟩
                  rw [h1]
                  simp [hin1]
                · rw [decide_eq_false hin1]
                  refine LK.ifT rfl ⟨_, rfl, _, h1, ?_, ?_, ?_, h3.upd gG2⟩
                  · rw [List.length_map]
                    have z1 := List.length_filter_le (fun w => decide (w ∉ ys)) ((spare d4.toNat i).take j)
                    have z2 : ((spare d4.toNat i).take j).length ≤ 26 := by
                      rw [List.length_take]
                      have : (spare d4.toNat i).length = 26 := by rw [spare, List.length_map, List.length_range]
                      omega
                    exact Nat.lt_of_le_of_lt (Nat.le_trans z1 z2) (by decide)
                  · rw [upd_same]
                    simp [hin1]
                  · rw [upd_ne sG2]
                    exact h2
              · obtain ⟨h1, h2, h3⟩ := hh
                have full : (spare d4.toNat i).take ((spare d4.toNat i).map V.str).length = spare d4.toNat i := by
                  rw [List.length_map, List.take_length]
                rw [full] at h1
                have fr := spare_free (s := d4.toNat) (k := i) d4n ys (by omega)
                obtain ⟨w1, ws, hws⟩ : ∃ w1 ws, (spare d4.toNat i).filter (fun w => decide (w ∉ ys)) = w1 :: ws := by
                  cases e : (spare d4.toNat i).filter (fun w => decide (w ∉ ys)) with
                  | nil => exact absurd e fr
                  | cons a b => exact ⟨a, b, rfl⟩
                have wm : w1 ∈ spare d4.toNat i := (List.mem_filter.mp (hws ▸ List.mem_cons_self .. : w1 ∈ (spare d4.toNat i).filter (fun w => decide (w ∉ ys)))).1
                rw [hws] at h1
                refine ⟨G2, _, 0, _, rfl, rfl, SqL.of h1, atI_nat (j := 0) rfl, D, _, _, rfl, rfl, h3.2.2.2, yl, ys ++ [w1], _, _, _, _, _, rfl, ?_, ?_, (h3.app nD w1).mono (by omega)⟩
                · rw [List.length_append, hl]
                  rfl
                · intro q hq
                  rcases List.mem_append.mp hq with hq | hq
                  · exact hn q hq
                  · obtain rfl := List.mem_singleton.mp hq
                    exact spare_yn (by omega) wm
            · rw [decide_eq_false hin]
              refine LK.ifT rfl ⟨_, rfl, D, _, _, rfl, rfl, hwe.2.2.2, yl, ys ++ [y], _, _, _, _, _, rfl, ?_, ?_, (hwe.app nD y).mono (by omega)⟩
              · rw [List.length_append, hl]
                rfl
              · intro q hq
                rcases List.mem_append.mp hq with hq | hq
                · exact hn q hq
                · obtain rfl := List.mem_singleton.mp hq
                  exact hy
        · refine ⟨_, rfl, (by show 0 ≤ sizeLine; decide), fun E1 nE => ?_⟩
          have hwa := hw8.new (o := .lst []) nE
          refine ⟨.list (ys.map PyData.str), .list [], .lst (SqL.of hwa.2.2.2) (dp_strs ys), .lst (SqL.of upd_same) .nil, sh_strs fun y hy => (hn y hy).2.2, by decide, _, rfl, ?_⟩
          rw [eqv_nil]
          by_cases em : ys = []
          · subst em
            refine LK.ifF rfl (LK.ifF rfl ?_)
            exact go _ _ ⟨_, rfl, y1, hwa.mono (by omega)⟩
          refine LK.ifT (by cases ys with | nil => exact absurd rfl em | cons _ _ => rfl) ?_
          refine ⟨_, rfl, c, 3, _, rfl, by decide, by decide, hwa.2.1, by omega, fun d6 H6 d60 d61 h6 b6 n6 => ⟨rfl, _, rfl, ?_⟩⟩
          have hwb := hwa.call h6 b6
          by_cases e0 : V.int d6 = V.int 0
          · refine LK.ifT (decide_eq_true e0) ?_
            obtain ⟨y0, hy0, at0⟩ := at_last em
            obtain ⟨q1, q2, q3⟩ := hn y0 hy0
            have sz : sizeLine ≥ 100 := by decide
            have c7 := cut_seven y0
            have c8 := cut_last q2
            have a1 := yn_one d4.toNat d4n c7 (lt_cut q3 none (some 7))
            have a2 := yn_one d4.toNat d4n c8 (lt_cut q3 none (some (-1)))
            refine ⟨_, rfl, 1, rfl, D, _, -1, _, rfl, rfl, SqL.of hwb.2.2.2, at0, 7, rfl, y0, rfl, by omega, ?_⟩
            refine ⟨_, rfl, _, rfl, abc, d4, _, rfl, rfl, abc_len, abc_at d40 d41, _, _, rfl, rfl, ?_, ?_⟩
            · show (cutS y0 none (some 7)).length + 1 ≤ sizeLine
              omega
            refine ⟨_, rfl, 1, rfl, D, _, -1, _, rfl, rfl, SqL.of hwb.2.2.2, at0, 1, rfl, _, rfl, y0, rfl, by omega, ?_⟩
            refine ⟨_, rfl, _, rfl, abc, d4, _, rfl, rfl, abc_len, abc_at d40 d41, _, _, rfl, rfl, ?_, ?_⟩
            · show (cutS y0 none (some (-1))).length + 1 ≤ sizeLine
              omega
            refine ⟨(by show 2 ≤ sizeLine; decide), fun L2 nL2 => ?_⟩
            have hwc := hwb.new (o := .lst [.str (cutS y0 none (some 7) ++ lett d4.toNat), .str (cutS y0 none (some (-1)) ++ lett d4.toNat)]) nL2
            refine ⟨_, rfl, c, 2, _, rfl, by decide, by decide, hwc.2.1, by omega, fun d7 H7 d70 d71 h7 b7 n7 => ?_⟩
            have hwd := hwc.call h7 b7
            have hL2 := b7 _ _ (hwb.2.1.fresh nL2).symm (upd_same (H := H6) (o := .lst [.str (cutS y0 none (some 7) ++ lett d4.toNat), .str (cutS y0 none (some (-1)) ++ lett d4.toNat)]))
            obtain rfl | rfl : d7 = 0 ∨ d7 = 1 := by omega
            · exact ⟨L2, _, 0, _, rfl, rfl, SqL.of hL2, rfl, go _ _ ⟨_, rfl, a1, hwd.mono (by omega)⟩⟩
            · exact ⟨L2, _, 1, _, rfl, rfl, SqL.of hL2, rfl, go _ _ ⟨_, rfl, a2, hwd.mono (by omega)⟩⟩
          · refine LK.ifF (decide_eq_false e0) ?_
            exact go _ _ ⟨_, rfl, y1, hwb.mono (by omega)⟩
    · obtain ⟨ys, o4, o5, o6, o7, o8, rfl, hl, hn, hw⟩ := hI
      exact ⟨_, rfl, k D H1 ys nD (hw.2.1.mono (by omega)) hw.2.2.1 hw.2.2.2 hl hn⟩
end
end B7
namespace B7
open PySem PySem.Spec PyProof.Rows L2 LK
abbrev sAny : Stmt := top 44
/-- what is no list stays -/
def Tk (H H' : Hp) : Prop := ∀ b o, (∀ xs, o ≠ .lst xs) → H b = some o → H' b = some o
theorem Tk.bt {c : Addr} {H H' : Hp} {B : Nat} (h : CR H c B) (b : Bt c H H') : Tk H H' := fun x o no e => b x o (h.ne e no) e
theorem Tk.same {H H' : Hp} (s : Same H H') : Tk H H' := fun x o _ e => s x o e
theorem Tk.own {H : Hp} {p : Addr} {xs : List V} {o : HO} (h : H p = some (.lst xs)) : Tk H (upd H p o) := fun x u no e => by
  rw [upd_ne (ne_of e h (no _))]
  exact e
theorem Tk.trans {H H1 H2 : Hp} (a : Tk H H1) (b : Tk H1 H2) : Tk H H2 := fun x o n e => b x o n (a x o n e)
theorem sqT_tk {K : PySem.W.Frag} {H H' : Hp} {a : Addr} {xs : List V} (e : Tk H H') (h : SqT K H a xs) : SqT K H' a xs := by
  rcases h with (h | ⟨o, h⟩) | h
  · exact .inl (.inl (e _ _ (fun _ q => by cases q) h))
  · exact .inl (.inr ⟨o, e _ _ (fun _ q => by cases q) h⟩)
  · exact .inr h
theorem dp_tk_ints {K : PySem.W.Frag} {H H' : Hp} : ∀ {xs : List V} {ns : List Int}, DpAll K H xs (ns.map PyData.int) → DpAll K H' xs (ns.map PyData.int)
  | _, [], .nil => .nil
  | _, n :: r, .cons (.int _) t => .cons (.int _) (dp_tk_ints t)
theorem dp_ints_of {K : PySem.W.Frag} {H : Hp} : ∀ ns : List Int, DpAll K H (ns.map V.int) (ns.map PyData.int)
  | [] => .nil
  | n :: r => .cons (.int n) (dp_ints_of r)
theorem lp_tk {K : PySem.W.Frag} {H H' : Hp} (e : Tk H H') {x : V} {l : Lp} (h : Dp K H x (lpD l)) : Dp K H' x (lpD l) := by
  cases h with
  | tup s a =>
    cases a with
    | cons d1 a =>
      cases d1
      cases a with
      | cons d2 dn =>
        cases dn
        cases d2 with
        | tup s2 a2 => exact .tup (sqT_tk e s) (.cons (.str _) (.cons (.tup (sqT_tk e s2) (dp_tk_ints a2)) .nil))
theorem lps_tk {K : PySem.W.Frag} {H H' : Hp} (e : Tk H H') : ∀ {xs : List V} {ls : List Lp}, DpAll K H xs (ls.map lpD) → DpAll K H' xs (ls.map lpD)
  | _, [], .nil => .nil
  | _, _ :: _, .cons a r => .cons (lp_tk e a) (lps_tk e r)
/-- the loops under way: the list at L -/
def Wa (K : PySem.W.Frag) (H Hn : Hp) (c L : Addr) (B : Nat) (ls : List Lp) (xs : List V) : Prop := c ≠ L ∧ CR Hn c B ∧ Bt c H Hn ∧ Hn L = some (.lst xs) ∧ DpAll K Hn xs (ls.map lpD)
theorem Wa.call {K : PySem.W.Frag} {H Hn H' : Hp} {c L : Addr} {B : Nat} {ls : List Lp} {xs : List V} (h : Wa K H Hn c L B ls xs) (h1 : CR H' c (B + 1)) (bt : Bt c Hn H') : Wa K H H' c L (B + 1) ls xs :=
  ⟨h.1, h1, h.2.2.1.trans bt, bt _ _ h.1.symm h.2.2.2.1, lps_tk (Tk.bt h.2.1 bt) h.2.2.2.2⟩
theorem Wa.new {K : PySem.W.Frag} {H Hn : Hp} {c L p : Addr} {B : Nat} {ls : List Lp} {xs : List V} {o : HO} (h : Wa K H Hn c L B ls xs) (np : Hn p = none) : Wa K H (upd Hn p o) c L B ls xs :=
  ⟨h.1, h.2.1.same (same_new np), h.2.2.1.trans (Bt.of (same_new np)), same_new np _ _ h.2.2.2.1, lps_tk (Tk.same (same_new np)) h.2.2.2.2⟩
theorem Wa.same {K : PySem.W.Frag} {H Hn H' : Hp} {c L : Addr} {B : Nat} {ls : List Lp} {xs : List V} (h : Wa K H Hn c L B ls xs) (s : Same Hn H') : Wa K H H' c L B ls xs :=
  ⟨h.1, h.2.1.same s, h.2.2.1.trans (Bt.of s), s _ _ h.2.2.2.1, lps_tk (Tk.same s) h.2.2.2.2⟩
theorem Wa.gone {K : PySem.W.Frag} {H Hn : Hp} {c L p : Addr} {B : Nat} {ls : List Lp} {xs : List V} (h : Wa K H Hn c L B ls xs) (np : Hn p = none) : H p = none ∧ p ≠ c ∧ p ≠ L := by
  have pc : p ≠ c := (h.2.1.fresh np).symm
  refine ⟨?_, pc, (ne_of_none h.2.2.2.1 np).symm⟩
  cases e : H p with
  | none => rfl
  | some o => rw [h.2.2.1 p o pc e] at np; cases np
theorem Wa.own {K : PySem.W.Frag} {H Hn : Hp} {c L p : Addr} {B : Nat} {ls : List Lp} {xs zs : List V} {o : HO} (h : Wa K H Hn c L B ls xs) (g : H p = none ∧ p ≠ c ∧ p ≠ L) (e : Hn p = some (.lst zs)) : Wa K H (upd Hn p o) c L B ls xs :=
  ⟨h.1, h.2.1.upd g.2.1, fun b u n e' => by rw [upd_ne (ne_of_none e' g.1)]; exact h.2.2.1 b u n e', by rw [upd_ne g.2.2.symm]; exact h.2.2.2.1, lps_tk (Tk.own e) h.2.2.2.2⟩
theorem Wa.mono {K : PySem.W.Frag} {H Hn : Hp} {c L : Addr} {B B' : Nat} {ls : List Lp} {xs : List V} (h : Wa K H Hn c L B ls xs) (l : B ≤ B') : Wa K H Hn c L B' ls xs := ⟨h.1, h.2.1.mono l, h.2.2⟩
theorem Wa.app {K : PySem.W.Frag} {H Hn : Hp} {c L : Addr} {B : Nat} {ls : List Lp} {xs : List V} {x : V} {l : Lp} (h : Wa K H Hn c L B ls xs) (nL : H L = none) (d : Dp K Hn x (lpD l)) : Wa K H (upd Hn L (.lst (xs ++ [x]))) c L B (ls ++ [l]) (xs ++ [x]) :=
  ⟨h.1, h.2.1.upd h.1.symm, fun b u n e => by rw [upd_ne (ne_of_none e nL)]; exact h.2.2.1 b u n e, upd_same, by
    rw [List.map_append]
    exact dps_app (lps_tk (Tk.own h.2.2.2.1) h.2.2.2.2) (.cons (lp_tk (Tk.own h.2.2.2.1) d) .nil)⟩
/-- loops as they may stand: threads of ys, parents ahead, ascending -/
def OkLs (ys : List Str) (ls : List Lp) : Prop := ∀ (k : Nat) (l : Lp), ls[k]? = some l → l.1 ∈ ys ∧ l.2.Pairwise (· < ·) ∧ l.2.length ≤ 5 ∧ ∀ p ∈ l.2, 0 ≤ p ∧ p < (k : Int)
def OkFs (n : Nat) (fs : List Int) : Prop := fs.Nodup ∧ ∀ x ∈ fs, 0 ≤ x ∧ x < (n : Int)
theorem okls_app {ys : List Str} {ls : List Lp} {l : Lp} (h : OkLs ys ls) (h1 : l.1 ∈ ys) (h2 : l.2.Pairwise (· < ·)) (h3 : l.2.length ≤ 5) (h4 : ∀ p ∈ l.2, 0 ≤ p ∧ p < (ls.length : Int)) : OkLs ys (ls ++ [l]) := by
  intro k m e
  rw [List.getElem?_append] at e
  split at e
  · exact h k m e
  · rename_i hk
    have : k - ls.length = 0 := by
      cases hq : k - ls.length with
      | zero => rfl
      | succ q => rw [hq] at e; simp at e
    rw [this] at e
    obtain rfl : l = m := by simpa using e
    have hk2 : k = ls.length := by omega
    subst hk2
    exact ⟨h1, h2, h3, h4⟩
theorem sh_ints (ns : List Int) : SeqAt.shaped (.list (ns.map PyData.int)) = true := by
  have h : ∀ ns : List Int, PyData.canLayAll0 (ns.map PyData.int) = true ∧ PyData.depthAll (ns.map PyData.int) = 0 := by
    intro ns
    induction ns with
    | nil => exact ⟨rfl, rfl⟩
    | cons n r ih =>
      constructor
      · rw [List.map_cons, PyData.canLayAll0, ih.1]
        rfl
      · simp only [List.map_cons, PyData.depthAll, PyData.depth, ih.2]
        rfl
  obtain ⟨a, b⟩ := h ns
  refine shaped_of (by simpa only [PyData.canLay0] using a) ?_
  simp only [PyData.depth, b]
  decide
theorem eqv_nili (ns : List Int) : PyData.eqv (.list (ns.map PyData.int)) (.list []) = ns.isEmpty := by
  cases ns with
  | nil => rfl
  | cons y r => rfl
theorem pick8 {k : Int} (k0 : 0 ≤ k) (k1 : k < 8) : ∃ z : Int, 0 ≤ z ∧ z ≤ 5 ∧ atI [V.int 0, .int 1, .int 1, .int 1, .int 2, .int 2, .int 3, .int 5] k = some (.int z) := by
  obtain rfl | rfl | rfl | rfl | rfl | rfl | rfl | rfl : k = 0 ∨ k = 1 ∨ k = 2 ∨ k = 3 ∨ k = 4 ∨ k = 5 ∨ k = 6 ∨ k = 7 := by omega
  all_goals exact ⟨_, by decide, by decide, rfl⟩
section
variable {P : Program} {w : World} {K : PySem.W.Frag} {mg : Str → Option Value} {base : Heap}
theorem eqDq {X : Cx} {K : PySem.W.Frag} (hu : X.A.units + 64 < cLine) (e : X.K = K := by rfl) : OpR X (compareOp .Eq) (rEqD K) := e ▸ op_eqD hu
theorem scAny : FnScope ["creel", "most", "yarns", "loops_here", "k", "many", "near", "picked", "turn", "spot", "childless", "fast_here", "inner"] ["creel", "most", "yarns"] (defScope sAny) := ⟨rfl, rfl, rfl, by decide +kernel, rfl, by decide +kernel, by decide +kernel⟩
def spAny (K : PySem.W.Frag) : Sp := fun vs H Q _ => ∃ (c ya : Addr) (most B : Nat) (ys : List Str), vs = [.ref c, .int most, .ref ya] ∧ most ≤ 1000 ∧ CR H c B ∧ B + 20000 < 10 ^ 12 ∧ Ys H ya ys ∧ ys ≠ [] ∧ ys.length ≤ 1000 ∧
  ∀ (t L G : Addr) (H' : Hp) (ls : List Lp) (xs : List V) (fs : List Int), H L = none → H G = none → L ≠ G → H' t = some (.tup [.ref L, .ref G]) → H' L = some (.lst xs) → DpAll K H' xs (ls.map lpD) → H' G = some (.lst (fs.map V.int)) → CR H' c (B + 20000) → Bt c H H' → ls.length ≤ most → OkLs ys ls → OkFs ls.length fs → Q (.ref t) H'
theorem ok_any {f fp fk : Addr} {fd fdp fdk : FuncData} (F : Fun K "_law_any_cloth" "_law_any_cloth" sAny f fd) (Fp : Fun K "_law_ply" "_law_ply" sPly fp fdp) (Fk : Fun K "_law_kids" "_law_kids" sKids fk fdk) (B : Bl mg) (gp : mg "_law_ply" = some (.ref fp)) (gk : mg "_law_kids" = some (.ref fk)) (bp : Binds K fdp ["creel", "span"] []) (bk : Binds K fdk ["loops_here", "spot"] []) (Gp : FnOk P w K mg base CX0 1 fp fdp ["creel", "span"] spPly) (Gk : FnOk P w K mg base CX0 1 fk fdk ["loops_here", "spot"] (spKids K)) :
    FnOk P w K mg base CX0 2 f fd ["creel", "most", "yarns"] (spAny K) := by
  refine F.ok scAny (fun vs H Q E h => ?_) (fun cdv A outer s H vs Q E hr h => ?_)
  · obtain ⟨c, ya, most, bb, ys, rfl, _⟩ := h
    rfl
  · obtain ⟨c, ya, most, bb, ys, rfl, hm, hc, hB, hy, hne, hyl, k⟩ := h
    refine ⟨_, pss_cons (ps_set (i := 3) scAny.nd rfl (Or.inr rfl) (pe_lst pa_nil))
      (pss_cons (ps_for PassesOwn.never rfl (pi_range1 (by rfl) (B "range" (by decide)) (pa_cons (pe_call (E := E0) Gp (hr.mono (by decide)) rfl gp Fp.kp bp .nil pass0 (pa_cons (pv 0) (pa_cons (pe_op op_add (pv 1) pe_int) pa_nil))) pa_nil)) (pg_name (i := 4) scAny.nd rfl (Or.inl rfl)) (pss_cons (ps_set (i := 5) scAny.nd rfl (Or.inl rfl) (pe_callB (call_min2 rfl) (by rfl) (B "min" (by decide)) (by decide +kernel) (pa_cons (pv 4) (pa_cons (pe_ix ix_list (pe_lst (pa_cons pe_int (pa_cons pe_int (pa_cons pe_int (pa_cons pe_int (pa_cons pe_int (pa_cons pe_int (pa_cons pe_int (pa_cons pe_int pa_nil))))))))) (pe_call (E := E0) Gp (hr.mono (by decide)) rfl gp Fp.kp bp .nil pass0 (pa_cons (pv 0) (pa_cons pe_int pa_nil))) (fun _ _ => rfl)) pa_nil))))
      (pss_cons (ps_par (i := 6) (j := 7) rfl scAny.nd rfl rfl (by decide) rfl rfl (pa_cons (pe_cmpR op_gt (pe_call (E := E0) Gp (hr.mono (by decide)) rfl gp Fp.kp bp .nil pass0 (pa_cons (pv 0) (pa_cons pe_int pa_nil))) pe_int (nomark _)) (pa_cons (pe_lst pa_nil) pa_nil)) (by rfl))
      (pss_cons (ps_for PassesOwn.never rfl (pi_range1 (by rfl) (B "range" (by decide)) (pa_cons (pv 5) pa_nil)) (pg_name (i := 8) scAny.nd rfl (Or.inl rfl)) (pss_cons (ps_set (i := 9) scAny.nd rfl (Or.inl rfl) (pe_ifExp (pt_val (pv 6)) (pe_op op_sub (pe_op op_sub (pv 4) pe_int) (pe_call (E := E0) Gp (hr.mono (by decide)) rfl gp Fp.kp bp .nil pass0 (pa_cons (pv 0) (pa_cons (pe_callB (call_min2 rfl) (by rfl) (B "min" (by decide)) (by decide +kernel) (pa_cons (pv 4) (pa_cons pe_int pa_nil))) pa_nil)))) (pe_call (E := E0) Gp (hr.mono (by decide)) rfl gp Fp.kp bp .nil pass0 (pa_cons (pv 0) (pa_cons (pv 4) pa_nil)))))
      (pss_one (ps_if (pt_cmpR op_notIn_seq (pv 9) (pv 7) (by rfl)) (pss_one (ps_expr (pe_bm PySem.F.plainAttrs_list PySem.F.slot_list_append PySem.F.type_list_append mt_append (pv 7) (pa_cons (pv 9) pa_nil)))) pss_nil))))
      (pss_one (ps_expr (pe_bm PySem.F.plainAttrs_list PySem.F.slot_list_append PySem.F.type_list_append mt_append (pv 3) (pa_cons (pe_tup (pa_cons (pe_ix ix_list (pv 2) (pe_call (E := E0) Gp (hr.mono (by decide)) rfl gp Fp.kp bp .nil pass0 (pa_cons (pv 0) (pa_cons (pe_callB call_len_seq (by rfl) (B "len" (by decide)) (by decide +kernel) (pa_cons (pv 2) pa_nil)) pa_nil))) (fun _ _ => rfl)) (pa_cons (pe_callTy call_tuple_of (by rfl) (B "tuple" (by decide)) (by decide +kernel) (pa_cons (pe_callB cr_sorted (by rfl) (B "sorted" (by decide)) (by decide +kernel) (pa_cons (pv 7) pa_nil)) pa_nil)) pa_nil))) pa_nil))))))))
      (pss_cons (ps_set (i := 10) scAny.nd rfl (Or.inr rfl) (pe_lc (own := [("k", 4)]) (g := gName 4) rfl scAny.nd (pi_range1 (by rfl) (B "range" (by decide)) (pa_cons (pe_callB call_len_seq (by rfl) (B "len" (by decide)) (by decide +kernel) (pa_cons (pv 3) pa_nil)) pa_nil)) (blkOk_by (N := ["creel", "most", "yarns", "loops_here", "k", "many", "near", "picked", "turn", "spot", "childless", "fast_here", "inner"]) (sc := defScope sAny) (by decide +kernel)) (fun _ _ _ _ _ => pg_name (i := 4) scAny.nd rfl (Or.inl rfl)) (fun _ _ _ _ _ => pts_one (pt_cmpR (eqDq (K := K) hr.units) (pe_call (E := E0) Gk (hr.mono (by decide)) rfl gk Fk.kp bk .nil pass0 (pa_cons (pv 3) (pa_cons (pv 4) pa_nil))) (pe_lst pa_nil) (nomark _))) (fun _ _ _ _ _ => pv 4)))
      (pss_cons (ps_setLc (i := 11) (own := [("k", 4)]) (g := gName 4) rfl scAny.nd rfl rfl (sw_true rfl rfl rfl (by decide +kernel)) (pi_list (pv 10)) (blkOk_by (N := ["creel", "most", "yarns", "loops_here", "k", "many", "near", "picked", "turn", "spot", "childless", "fast_here", "inner"]) (sc := defScope sAny) (by decide +kernel)) (fun _ _ _ _ _ => pg_name (i := 4) scAny.nd rfl (Or.inl rfl)) (fun _ _ _ _ _ => pts_one (pt_cmpR op_gt (pe_call (E := E0) Gp (hr.mono (by decide)) rfl gp Fp.kp bp .nil pass0 (pa_cons (pv 0) (pa_cons pe_int pa_nil))) pe_int (nomark _))) (fun _ _ _ _ _ => pv 4))
      (pss_cons (ps_setLc (i := 12) (own := [("k", 4)]) (g := gName 4) rfl scAny.nd rfl rfl (sw_true rfl rfl rfl (by decide +kernel)) (pi_range1 (by rfl) (B "range" (by decide)) (pa_cons (pe_callB call_len_seq (by rfl) (B "len" (by decide)) (by decide +kernel) (pa_cons (pv 3) pa_nil)) pa_nil)) (blkOk_by (N := ["creel", "most", "yarns", "loops_here", "k", "many", "near", "picked", "turn", "spot", "childless", "fast_here", "inner"]) (sc := defScope sAny) (by decide +kernel)) (fun _ _ _ _ _ => pg_name (i := 4) scAny.nd rfl (Or.inl rfl)) (fun _ _ _ _ _ => pts_one (pt_cmpR (ninq (K := K)) (pv 4) (pv 10) (by rfl))) (fun _ _ _ _ _ => pv 4))
      (pss_one (ps_ret (pe_tup (pa_cons (pv 3) (pa_cons (pe_op op_cat (pv 11) (pe_lc (own := [("k", 4)]) (g := gName 4) rfl scAny.nd (pi_list (pv 12)) (blkOk_by (N := ["creel", "most", "yarns", "loops_here", "k", "many", "near", "picked", "turn", "spot", "childless", "fast_here", "inner"]) (sc := defScope sAny) (by decide +kernel)) (fun _ _ _ _ _ => pg_name (i := 4) scAny.nd rfl (Or.inl rfl)) (fun _ _ _ _ _ => pts_one (pt_cmpR op_eq (pe_call (E := E0) Gp (hr.mono (by decide)) rfl gp Fp.kp bp .nil pass0 (pa_cons (pv 0) (pa_cons pe_int pa_nil))) pe_int (nomark _))) (fun _ _ _ _ _ => pv 4))) pa_nil))))))))), ?_⟩
    have cy : ya ≠ c := by
      intro e
      subst e
      obtain ⟨_, _, _, e, _⟩ := hc
      rw [Ys, e] at hy
      cases ys with
      | nil => exact hne rfl
      | cons a r => simp at hy
    refine ⟨(by show 0 ≤ sizeLine; decide), fun L nL => ?_⟩
    have cL : c ≠ L := hc.fresh nL
    have w0 : Wa K H (upd H L (.lst [])) c L bb [] [] := ⟨cL, hc.upd cL.symm, Bt.of (same_new nL), upd_same, .nil⟩
    refine ⟨_, rfl, _, rfl, _, _, rfl, rfl, c, _, bb, rfl, by omega, by omega, w0.2.1, by omega, fun d0 H1 d00 d01 h1 b1 n1 => ?_⟩
    have w1 := w0.call h1 b1
    refine ⟨d0, rfl, by omega, by omega, ?_⟩
    refine for_range (lo := 0) (n := d0.toNat) (fun i σ H' => ∃ (ls : List Lp) (xs : List V) (o4 o5 o6 o7 o8 o9 : Option V), σ = [some (.ref c), some (.int most), some (.ref ya), some (.ref L), o4, o5, o6, o7, o8, o9, none, none, none] ∧ ls.length = i ∧ OkLs ys ls ∧ Wa K H H' c L (bb + 1 + 10 * i) ls xs)
      ⟨[], [], _, _, _, _, _, _, rfl, rfl, fun k l e => by simp at e, w1⟩ (fun i σ H2 hi hI => ?_) (fun σ H2 hI => ?_)
    · obtain ⟨ls, xs, o4, o5, o6, o7, o8, o9, rfl, hl, ok, hw⟩ := hI
      have yaH : ∀ Hn B ls xs, Wa K H Hn c L B ls xs → Ys Hn ya ys := fun Hn B ls xs h => h.2.2.1 _ _ cy hy
      refine ⟨_, rfl, (by show 8 ≤ sizeLine; decide), fun T8 nT8 => ?_⟩
      have hw1 := hw.new (o := .lst [.int 0, .int 1, .int 1, .int 1, .int 2, .int 2, .int 3, .int 5]) nT8
      refine ⟨_, rfl, c, 8, _, rfl, by decide, by decide, hw1.2.1, by omega, fun d1 H3 d10 d11 h3 b3 n3 => ?_⟩
      have hw2 := hw1.call h3 b3
      have hT8 : H3 T8 = some (.lst [.int 0, .int 1, .int 1, .int 1, .int 2, .int 2, .int 3, .int 5]) := b3 _ _ (hw.2.1.fresh nT8).symm upd_same
      obtain ⟨m0, m00, m01, hm0⟩ := pick8 d10 d11
      refine ⟨T8, _, _, _, rfl, rfl, SqL.of hT8, hm0, _, _, rfl, ?_⟩
      obtain ⟨z, hz, z0, z1, z2⟩ : ∃ z : Int, (if m0 < 0 + (i : Int) then m0 else 0 + (i : Int)) = z ∧ 0 ≤ z ∧ z ≤ 5 ∧ z ≤ i := by
        refine ⟨_, rfl, ?_, ?_, ?_⟩ <;> (split <;> omega)
      rw [hz]
      refine ⟨_, rfl, c, 3, _, rfl, by decide, by decide, hw2.2.1, by omega, fun d2 H4 d20 d21 h4 b4 n4 => ?_⟩
      have hw3 := hw2.call h4 b4
      refine ⟨_, _, rfl, rfl, (by show 0 ≤ sizeLine; decide), fun Pk nPk => ⟨_, _, rfl, ?_⟩⟩
      have hw4 := hw3.new (o := .lst []) nPk
      have gP := hw3.gone nPk
      refine ⟨_, rfl, z, rfl, by omega, by omega, ?_⟩
      refine for_range (lo := 0) (n := z.toNat) (fun j σ H' => ∃ (ps : List Int) (o8 o9 : Option V), σ = [some (.ref c), some (.int most), some (.ref ya), some (.ref L), some (.int (0 + (i : Int))), some (.int z), some (.bl (decide (0 < d2))), some (.ref Pk), o8, o9, none, none, none] ∧ H' Pk = some (.lst (ps.map V.int)) ∧ ps.length ≤ j ∧ ps.Nodup ∧ (∀ p ∈ ps, 0 ≤ p ∧ p < (i : Int)) ∧ Wa K H H' c L (bb + 1 + 10 * i + 2 + j) ls xs)
        ⟨[], _, _, rfl, upd_same, Nat.zero_le _, List.nodup_nil, fun p h => absurd h List.not_mem_nil, hw4⟩ (fun j σ H5 hj hJ => ?_) (fun σ H5 hJ => ?_)
      · obtain ⟨ps, o8, o9, rfl, hP, pl, pn, pp, hw5⟩ := hJ
        have i0 : (0 : Int) < i := by omega
        have ap : ∀ (spot : Int) (H6 : Hp), 0 ≤ spot → spot < (i : Int) → H6 Pk = some (.lst (ps.map V.int)) → Wa K H H6 c L (bb + 1 + 10 * i + 2 + (j + 1)) ls xs → spot ∉ ps → (H6 Pk = some (.lst (ps.map V.int)) ∧ (ps.map V.int).length < sizeLine) ∧ ∃ (ps' : List Int), upd H6 Pk (.lst (ps.map V.int ++ [V.int spot])) Pk = some (.lst (ps'.map V.int)) ∧ ps'.length ≤ j + 1 ∧ ps'.Nodup ∧ (∀ p ∈ ps', 0 ≤ p ∧ p < (i : Int)) ∧ Wa K H (upd H6 Pk (.lst (ps.map V.int ++ [V.int spot]))) c L (bb + 1 + 10 * i + 2 + (j + 1)) ls xs := by
          intro spot H6 s0 s1 e6 w6 nin
          refine ⟨⟨e6, ?_⟩, ps ++ [spot], ?_, ?_, ?_, ?_, w6.own gP e6⟩
          · rw [List.length_map]
            exact Nat.lt_of_lt_of_le (by omega : ps.length < 100) (by decide)
          · rw [upd_same, List.map_append]
            rfl
          · rw [List.length_append]
            simp only [List.length_singleton]
            omega
          · exact List.nodup_append.mpr ⟨pn, by simp, fun a ha b hb e => by obtain rfl := List.mem_singleton.mp hb; exact nin (e ▸ ha)⟩
          · intro p hp
            rcases List.mem_append.mp hp with hp | hp
            · exact pp p hp
            · obtain rfl := List.mem_singleton.mp hp
              exact ⟨s0, s1⟩
        refine ⟨_, rfl, decide (0 < d2), rfl, ?_⟩
        by_cases near : 0 < d2
        · refine LK.ifT (decide_eq_true near) ?_
          refine ⟨_, rfl, _, _, rfl, rfl, _, rfl, _, rfl, _, _, rfl, ?_⟩
          obtain ⟨sp, hsp, sp0, sp1, sp2⟩ : ∃ sp : Int, (if 6 < 0 + (i : Int) then 6 else 0 + (i : Int)) = sp ∧ 0 < sp ∧ sp ≤ 6 ∧ sp ≤ i := by
            refine ⟨_, rfl, ?_, ?_, ?_⟩ <;> (split <;> omega)
          rw [hsp]
          refine ⟨c, sp, _, rfl, sp0, by omega, hw5.2.1, by omega, fun d3 H6 d30 d31 h6 b6 n6 => ?_⟩
          have hw6 := hw5.call h6 b6
          have e6 := b6 _ _ gP.2.1 hP
          refine ⟨_, _, rfl, rfl, _, rfl, _, rfl, Pk, _, rfl, .inl (SqL.of e6), rfl, flat_ints ps, _, rfl, ?_⟩
          show if (!inV (.int (0 + (i : Int) - 1 - d3)) (ps.map V.int)) = true then _ else _
          rw [inV_int]
          by_cases hin : (0 + (i : Int) - 1 - d3) ∈ ps
          · rw [decide_eq_true hin]
            exact LK.ifF rfl ⟨ps, _, _, rfl, e6, by omega, pn, pp, hw6⟩
          · rw [decide_eq_false hin]
            obtain ⟨⟨q1, q2⟩, ps', q3, q4, q5, q6, q7⟩ := ap (0 + (i : Int) - 1 - d3) H6 (by omega) (by omega) e6 hw6 hin
            exact LK.ifT rfl ⟨_, rfl, .inl ⟨rfl, _, SqL.of e6⟩, _, rfl, Pk, _, _, rfl, rfl, q1, q2, ps', _, _, rfl, q3, q4, q5, q6, q7⟩
        · refine LK.ifF (decide_eq_false near) ?_
          refine ⟨_, rfl, _, rfl, c, _, _, rfl, by omega, by omega, hw5.2.1, by omega, fun d3 H6 d30 d31 h6 b6 n6 => ?_⟩
          have hw6 := hw5.call h6 b6
          have e6 := b6 _ _ gP.2.1 hP
          refine ⟨_, rfl, _, rfl, Pk, _, rfl, .inl (SqL.of e6), rfl, flat_ints ps, _, rfl, ?_⟩
          show if (!inV (.int (d3)) (ps.map V.int)) = true then _ else _
          rw [inV_int]
          by_cases hin : (d3) ∈ ps
          · rw [decide_eq_true hin]
            exact LK.ifF rfl ⟨ps, _, _, rfl, e6, by omega, pn, pp, hw6⟩
          · rw [decide_eq_false hin]
            obtain ⟨⟨q1, q2⟩, ps', q3, q4, q5, q6, q7⟩ := ap (d3) H6 (by omega) (by omega) e6 hw6 hin
            exact LK.ifT rfl ⟨_, rfl, .inl ⟨rfl, _, SqL.of e6⟩, _, rfl, Pk, _, _, rfl, rfl, q1, q2, ps', _, _, rfl, q3, q4, q5, q6, q7⟩
      · obtain ⟨ps, o8, o9, rfl, hP, pl, pn, pp, hw5⟩ := hJ
        have ya5 := yaH _ _ _ _ hw5
        refine ⟨_, rfl, .inl ⟨rfl, _, SqL.of hw5.2.2.2.1⟩, ?_⟩
        have y0 : 0 < ys.length := List.length_pos_iff.mpr hne
        refine ⟨_, rfl, _, rfl, _, rfl, ya, _, rfl, .inl (SqL.of ya5), ?_⟩
        rw [List.length_map]
        refine ⟨c, _, _, rfl, by omega, by omega, hw5.2.1, by omega, fun d3 H6 d30 d31 h6 b6 n6 => ?_⟩
        have hw6 := hw5.call h6 b6
        have e6 := b6 _ _ gP.2.1 hP
        obtain ⟨y, hyy⟩ : ∃ y, ys[d3.toNat]? = some y := ⟨ys[d3.toNat]'(by omega), List.getElem?_eq_getElem (by omega)⟩
        have at3 : atI (ys.map V.str) d3 = some (.str y) := by
          have := atI_nat (xs := ys.map V.str) (j := d3.toNat) (v := .str y) (by rw [List.getElem?_map, hyy]; rfl)
          rwa [show ((d3.toNat : Nat) : Int) = d3 by omega] at this
        refine ⟨ya, _, _, _, rfl, rfl, SqL.of (yaH _ _ _ _ hw6), at3, ?_⟩
        refine ⟨_, rfl, Pk, ps, rfl, SqL.of e6, by omega, fun ps' Sp perm pw nSp => ?_⟩
        have hw7 := hw6.new (o := .lst (ps'.map V.int)) nSp
        refine ⟨Sp, _, rfl, .inl ⟨SqL.of upd_same, fun Tp nTp => ?_⟩⟩
        have hw8 := hw7.new (o := .tup (ps'.map V.int)) nTp
        refine ⟨(by show 2 ≤ sizeLine; decide), fun Tl nTl => ?_⟩
        have hw9 := hw8.new (o := .tup [.str y, .ref Tp]) nTl
        have eTp := same_new (o := .tup [.str y, .ref Tp]) nTl _ _ (upd_same (H := upd H6 Sp (.lst (ps'.map V.int))) (a := Tp) (o := .tup (ps'.map V.int)))
        have dl : Dp K _ (.ref Tl) (lpD (y, ps')) := .tup (.inl (.inl (upd_same (o := .tup [.str y, .ref Tp])))) (.cons (.str y) (.cons (.tup (.inl (.inl eTp)) (dp_ints_of ps')) .nil))
        have xl : xs.length = i := by
          rw [dps_len hw5.2.2.2.2, List.length_map, hl]
        refine ⟨L, xs, .ref Tl, rfl, rfl, hw9.2.2.2.1, ?_, ls ++ [(y, ps')], xs ++ [.ref Tl], _, _, _, _, _, _, rfl, ?_, ?_, (hw9.app nL dl).mono (by omega)⟩
        · rw [xl]
          exact Nat.lt_of_lt_of_le (by omega : i < 2000) (by decide)
        · rw [List.length_append, hl]
          rfl
        · refine okls_app ok (List.mem_of_getElem? hyy) ?_ ?_ fun p hp => ?_
          · have nd : ps'.Nodup := perm.symm.nodup pn
            exact (List.Pairwise.and pw nd).imp fun h => by omega
          · show ps'.length ≤ 5
            rw [perm.length_eq]
            omega
          · rw [hl]
            exact pp p (perm.mem_iff.mp hp)
    · obtain ⟨ls, xs, o4, o5, o6, o7, o8, o9, rfl, hl, ok, hw⟩ := hI
      have xl : xs.length = ls.length := by rw [dps_len hw.2.2.2.2, List.length_map]
      have ln : ls.length ≤ 1000 := by omega
      refine ⟨_, rfl, L, xs, rfl, .inl (SqL.of hw.2.2.2.1), _, rfl, by omega, by omega, fun C1 nC1 => ?_⟩
      have gC := hw.gone nC1
      refine lc_range (lo := 0) (n := xs.length) (fun j H' => H' C1 = some (.lst ((((List.range j).filter fun k : Nat => (kidsOf ls (0 + (k : Int))).isEmpty).map fun k : Nat => V.int (k : Int)))) ∧ Wa K H H' c L (bb + 1 + 10 * d0.toNat) ls xs)
        ⟨upd_same, (hw.new nC1)⟩ (fun j H3 hj hh => ⟨rfl, ?_⟩) (fun H3 hh => ?_)
      · obtain ⟨hC, hw1⟩ := hh
        refine ⟨_, rfl, _, rfl, L, _, xs, ls, rfl, SqL.of hw1.2.2.2.1, hw1.2.2.2.2, by omega, fun H4 kp nkp s4 e4 => ?_⟩
        have hw2 := hw1.same s4
        refine ⟨(by show 0 ≤ sizeLine; decide), fun e0 ne0 => ?_⟩
        have hw3 := hw2.new (o := .lst []) ne0
        have e5 := same_new (o := .lst []) ne0 _ _ e4
        have km : ((kidsOf ls (0 + (j : Int))).map fun k : Nat => V.int (k : Int)) = ((kidsOf ls (0 + (j : Int))).map fun k : Nat => (k : Int)).map V.int := by
          rw [List.map_map]
          rfl
        rw [km] at e5
        refine ⟨.list (((kidsOf ls (0 + (j : Int))).map fun k : Nat => (k : Int)).map PyData.int), .list [], .lst (SqL.of e5) (dp_ints_of _), .lst (SqL.of upd_same) .nil, sh_ints _, by decide, _, rfl, ?_⟩
        have hC1 := same_new (o := .lst []) ne0 _ _ (s4 _ _ hC)
        rw [eqv_nili, List.isEmpty_map, filt_more]
        by_cases em : (kidsOf ls (0 + (j : Int))).isEmpty = true
        · refine LK.ifT em ⟨_, rfl, _, hC1, ?_, ?_, hw3.own gC hC1⟩
          · rw [List.length_map]
            exact Nat.lt_of_le_of_lt (List.length_filter_le _ _) (by rw [List.length_range]; exact Nat.lt_of_lt_of_le (by omega : j < 2000) (by decide))
          · rw [upd_same, if_pos em, List.map_append]
            show some (HO.lst (_ ++ [V.int (0 + (j : Int))])) = some (HO.lst (_ ++ [V.int (j : Int)]))
            rw [Int.zero_add]
        · refine LK.ifF (by simpa using em) ⟨?_, hw3⟩
          rw [hC1, if_neg em, List.append_nil]
      · obtain ⟨hC, hw1⟩ := hh
        generalize hcl : ((List.range xs.length).filter fun k : Nat => (kidsOf ls (0 + (k : Int))).isEmpty) = cl at hC
        have cln : cl.length ≤ 1000 := by
          rw [← hcl]
          refine Nat.le_trans (List.length_filter_le _ _) ?_
          rw [List.length_range]
          omega
        -- the fast ones
        refine ⟨_, rfl, C1, rfl, ⟨_, SqL.of hC⟩, fun F1 nF1 => ?_⟩
        have gF := hw1.gone nF1
        have CF : C1 ≠ F1 := ne_of_none hC nF1
        refine lc_list (K := K) (a := C1) (xs := cl.map fun k : Nat => V.int (k : Int)) (fun j H' => ∃ f1 : List Nat, H' F1 = some (.lst (f1.map fun k : Nat => V.int (k : Int))) ∧ f1.Sublist (cl.take j) ∧ H' C1 = some (.lst (cl.map fun k : Nat => V.int (k : Int))) ∧ Wa K H H' c L (bb + 1 + 10 * d0.toNat + j) ls xs)
          ⟨[], upd_same, List.nil_sublist _, by rw [upd_ne CF]; exact hC, hw1.new nF1⟩ (fun j H' hj hh => SqL.of hh.choose_spec.2.2.1) (fun j x H4 hx hh => ⟨rfl, ?_⟩) (fun H4 hh => ?_)
        · obtain ⟨f1, hF, sl, hC4, hw2⟩ := hh
          rw [List.getElem?_map] at hx
          obtain ⟨q, hq, rfl⟩ := Option.map_eq_some_iff.mp hx
          have jl : j < cl.length := (List.getElem?_eq_some_iff.mp hq).1
          have tk : cl.take (j + 1) = cl.take j ++ [q] := by
            rw [List.take_succ, hq]
            rfl
          refine ⟨_, rfl, c, 4, _, rfl, by decide, by decide, hw2.2.1, by omega, fun d H5 d0' d1' h5 b5 n5 => ⟨_, _, rfl, rfl, _, rfl, ?_⟩⟩
          have hw3 := hw2.call h5 b5
          have hF5 := b5 _ _ gF.2.1 hF
          have hC5 := b5 _ _ gC.2.1 hC4
          by_cases big : 0 < d
          · refine LK.ifT (decide_eq_true big) ⟨_, rfl, _, hF5, ?_, f1 ++ [q], ?_, ?_, ?_, hw3.own gF hF5⟩
            · rw [List.length_map]
              have := sl.length_le
              rw [List.length_take] at this
              exact Nat.lt_of_lt_of_le (by omega : f1.length < 2000) (by decide)
            · rw [upd_same, List.map_append]
              rfl
            · rw [tk]
              exact sl.append (List.Sublist.refl _)
            · rw [upd_ne CF]
              exact hC5
          · refine LK.ifF (decide_eq_false big) ⟨f1, hF5, ?_, hC5, hw3⟩
            rw [tk]
            exact sl.trans (List.sublist_append_left _ _)
        · obtain ⟨f1, hF, sl, hC4, hw2⟩ := hh
          rw [List.length_map] at hw2 sl
          rw [List.take_length] at sl
          -- the inner ones
          refine ⟨_, rfl, L, xs, rfl, .inl (SqL.of hw2.2.2.2.1), _, rfl, by omega, by omega, fun I1 nI1 => ?_⟩
          have gI := hw2.gone nI1
          have CI : C1 ≠ I1 := ne_of_none hC4 nI1
          have FI : F1 ≠ I1 := ne_of_none hF nI1
          refine lc_range (lo := 0) (n := xs.length) (fun j H' => H' I1 = some (.lst (((List.range j).filter fun k : Nat => decide (k ∉ cl)).map fun k : Nat => V.int (k : Int))) ∧ H' C1 = some (.lst (cl.map fun k : Nat => V.int (k : Int))) ∧ H' F1 = some (.lst (f1.map fun k : Nat => V.int (k : Int))) ∧ Wa K H H' c L (bb + 1 + 10 * d0.toNat + cl.length) ls xs)
            ⟨upd_same, by rw [upd_ne CI]; exact hC4, by rw [upd_ne FI]; exact hF, hw2.new nI1⟩ (fun j H5 hj hh => ⟨rfl, ?_⟩) (fun H5 hh => ?_)
          · obtain ⟨hI, hC5, hF5, hw3⟩ := hh
            have cm : (cl.map fun k : Nat => V.int (k : Int)) = (cl.map fun k : Nat => (k : Int)).map V.int := by
              rw [List.map_map]
              rfl
            have mem : (0 + (j : Int)) ∈ (cl.map fun k : Nat => (k : Int)) ↔ j ∈ cl := by
              constructor
              · intro h
                obtain ⟨q, hq, e⟩ := List.mem_map.mp h
                obtain rfl : q = j := by omega
                exact hq
              · intro h
                exact List.mem_map.mpr ⟨j, h, (Int.zero_add _).symm⟩
            refine ⟨_, rfl, _, rfl, C1, _, rfl, .inl (SqL.of hC5), rfl, by rw [cm]; exact flat_ints _, _, rfl, ?_⟩
            show if (!inV (.int (0 + (j : Int))) (cl.map fun k : Nat => V.int (k : Int))) = true then _ else _
            rw [cm, inV_int, filt_more]
            by_cases jc : j ∈ cl
            · rw [decide_eq_true (mem.mpr jc)]
              refine LK.ifF rfl ⟨?_, by rw [← cm]; exact hC5, hF5, hw3⟩
              rw [hI]
              simp [jc]
            · rw [decide_eq_false (fun h => jc (mem.mp h))]
              refine LK.ifT rfl ⟨_, rfl, _, hI, ?_, ?_, ?_, ?_, hw3.own gI hI⟩
              · rw [List.length_map]
                exact Nat.lt_of_le_of_lt (List.length_filter_le _ _) (by rw [List.length_range]; exact Nat.lt_of_lt_of_le (by omega : j < 2000) (by decide))
              · rw [upd_same, if_pos (decide_eq_true jc), List.map_append]
                show some (HO.lst (_ ++ [V.int (0 + (j : Int))])) = some (HO.lst (_ ++ [V.int (j : Int)]))
                rw [Int.zero_add]
              · rw [upd_ne CI, ← cm]
                exact hC5
              · rw [upd_ne FI]
                exact hF5
          · obtain ⟨hI, hC5, hF5, hw3⟩ := hh
            generalize hil : ((List.range xs.length).filter fun k : Nat => decide (k ∉ cl)) = il at hI
            have iln : il.length ≤ 1000 := by
              rw [← hil]
              refine Nat.le_trans (List.length_filter_le _ _) ?_
              rw [List.length_range]
              omega
            refine ⟨_, rfl, _, rfl, _, rfl, I1, rfl, ⟨_, SqL.of hI⟩, fun G1 nG1 => ?_⟩
            have gG := hw3.gone nG1
            have FG : F1 ≠ G1 := ne_of_none hF5 nG1
            have IG : I1 ≠ G1 := ne_of_none hI nG1
            refine lc_list (K := K) (a := I1) (xs := il.map fun k : Nat => V.int (k : Int)) (fun j H' => ∃ f2 : List Nat, H' G1 = some (.lst (f2.map fun k : Nat => V.int (k : Int))) ∧ f2.Sublist (il.take j) ∧ H' I1 = some (.lst (il.map fun k : Nat => V.int (k : Int))) ∧ H' F1 = some (.lst (f1.map fun k : Nat => V.int (k : Int))) ∧ Wa K H H' c L (bb + 1 + 10 * d0.toNat + cl.length + j) ls xs)
              ⟨[], upd_same, List.nil_sublist _, by rw [upd_ne IG]; exact hI, by rw [upd_ne FG]; exact hF5, hw3.new nG1⟩ (fun j H' hj hh => SqL.of hh.choose_spec.2.2.1) (fun j x H6 hx hh => ⟨rfl, ?_⟩) (fun H6 hh => ?_)
            · obtain ⟨f2, hG, sl2, hI6, hF6, hw4⟩ := hh
              rw [List.getElem?_map] at hx
              obtain ⟨q, hq, rfl⟩ := Option.map_eq_some_iff.mp hx
              have jl : j < il.length := (List.getElem?_eq_some_iff.mp hq).1
              have tk : il.take (j + 1) = il.take j ++ [q] := by
                rw [List.take_succ, hq]
                rfl
              refine ⟨_, rfl, c, 9, _, rfl, by decide, by decide, hw4.2.1, by omega, fun d H7 d0' d1' h7 b7 n7 => ⟨rfl, _, rfl, ?_⟩⟩
              have hw5 := hw4.call h7 b7
              have hG7 := b7 _ _ gG.2.1 hG
              have hI7 := b7 _ _ gI.2.1 hI6
              have hF7 := b7 _ _ gF.2.1 hF6
              by_cases big : V.int d = V.int 0
              · refine LK.ifT (decide_eq_true big) ⟨_, rfl, _, hG7, ?_, f2 ++ [q], ?_, ?_, ?_, ?_, hw5.own gG hG7⟩
                · rw [List.length_map]
                  have := sl2.length_le
                  rw [List.length_take] at this
                  exact Nat.lt_of_lt_of_le (by omega : f2.length < 2000) (by decide)
                · rw [upd_same, List.map_append]
                  rfl
                · rw [tk]
                  exact sl2.append (List.Sublist.refl _)
                · rw [upd_ne IG]
                  exact hI7
                · rw [upd_ne FG]
                  exact hF7
              · refine LK.ifF (decide_eq_false big) ⟨f2, hG7, ?_, hI7, hF7, hw5⟩
                rw [tk]
                exact sl2.trans (List.sublist_append_left _ _)
            · obtain ⟨f2, hG, sl2, hI6, hF6, hw4⟩ := hh
              rw [List.length_map] at hw4 sl2
              rw [List.take_length] at sl2
              have l1 := sl.length_le
              have l2 := sl2.length_le
              refine ⟨F1, G1, _, _, rfl, rfl, hF6, hG, ?_, fun R nR => ⟨(by show 2 ≤ sizeLine; decide), fun Tt nTt => ?_⟩⟩
              · rw [List.length_map, List.length_map]
                exact Nat.le_of_lt (Nat.lt_of_lt_of_le (by omega : f1.length + f2.length < 3000) (by decide))
              have gR := hw4.gone nR
              have hw5 := hw4.new (o := .lst ((f1.map fun k : Nat => V.int (k : Int)) ++ f2.map fun k : Nat => V.int (k : Int))) nR
              have hw6 := hw5.new (o := .tup [.ref L, .ref R]) nTt
              have hR : upd (upd H6 R (.lst ((f1.map fun k : Nat => V.int (k : Int)) ++ f2.map fun k : Nat => V.int (k : Int)))) Tt (.tup [.ref L, .ref R]) R = some (.lst (((f1 ++ f2).map fun k : Nat => (k : Int)).map V.int)) := by
                rw [same_new nTt _ _ upd_same, List.map_map, List.map_append]
                rfl
              refine k Tt L R _ ls xs _ nL gR.1 gR.2.2.symm upd_same hw6.2.2.2.1 hw6.2.2.2.2 hR (hw6.2.1.mono (by omega)) hw6.2.2.1 (by omega) ok ⟨?_, fun x hx => ?_⟩
              · have nr : (List.range xs.length).Nodup := List.nodup_range
                have n1 : cl.Nodup := by
                  rw [← hcl]
                  exact nr.filter _
                have n2 : il.Nodup := by
                  rw [← hil]
                  exact nr.filter _
                have nd : (f1 ++ f2).Nodup := List.nodup_append.mpr ⟨n1.sublist sl, n2.sublist sl2, fun a ha b hb e => by
                  subst e
                  have a1 := sl.subset ha
                  have a2 := sl2.subset hb
                  rw [← hil] at a2
                  exact absurd a1 (of_decide_eq_true (List.mem_filter.mp a2).2)⟩
                exact List.Pairwise.map _ (fun a b h => by omega) nd
              · obtain ⟨q, hq, rfl⟩ := List.mem_map.mp hx
                have : q ∈ List.range xs.length := by
                  rcases List.mem_append.mp hq with hq | hq
                  · have := sl.subset hq
                    rw [← hcl] at this
                    exact (List.mem_filter.mp this).1
                  · have := sl2.subset hq
                    rw [← hil] at this
                    exact (List.mem_filter.mp this).1
                rw [List.mem_range] at this
                omega
end
end B7
/-! A row of a work, as a function of data. -/
namespace B7
open PySem PySem.Spec PyProof.Rows L2 LK
inductive Sti
  | pas
  | crs
  | chn
  | st (j k : Nat)
def stiD : Sti → PyData
  | .pas => .str "pass"
  | .crs => .str "cross"
  | .chn => .str "chain"
  | .st j k => .tuple [.int (j : Nat), .int (k : Nat)]
/-- a row under way: the loops, the tied ones, those done, those left, the link -/
structure Sw where
  ls : List Lp
  ti : List Int
  dn : List Int
  lf : List Int
  lk : Option Int
def srt (xs : List Int) : List Int := xs.mergeSort (fun a b => decide (a ≤ b))
theorem srt_perm (xs : List Int) : (srt xs).Perm xs := List.mergeSort_perm xs _
theorem srt_pw (xs : List Int) : (srt xs).Pairwise (· ≤ ·) := by
  have h := List.pairwise_mergeSort (le := fun a b : Int => decide (a ≤ b)) (fun a b c h1 h2 => by simp at *; omega) (fun a b => by simp; omega) xs
  exact h.imp fun h => by simpa using h
theorem srt_of {ms xs : List Int} (p : ms.Perm xs) (w : ms.Pairwise (· ≤ ·)) : ms = srt xs :=
  List.Perm.eq_of_pairwise (le := (· ≤ ·)) (fun a b _ _ h1 h2 => Int.le_antisymm h1 h2) w (srt_pw xs) (p.trans (srt_perm xs).symm)
theorem srt_lt {xs : List Int} (nd : xs.Nodup) : (srt xs).Pairwise (· < ·) := by
  have h := List.pairwise_and_iff.mpr ⟨srt_pw xs, (srt_perm xs).nodup_iff.mpr nd⟩
  exact h.imp fun ⟨a, b⟩ => by omega
def needOf : Sti → Nat
  | .crs => 2
  | .pas => 1
  | .chn => 1
  | .st j _ => j
/-- k new loops of one thread through the same ones -/
def knit (y : Str) (ps : List Int) : Nat → List Lp × List Int → List Lp × List Int
  | 0, s => s
  | k + 1, s => ((knit y ps k s).1 ++ [(y, ps)], (knit y ps k s).2 ++ [((knit y ps k s).1.length : Int)])
def doneS (y : Str) (q : Sti) (s : Sw) : Sw := match q with
  | .crs => { s with lf := (s.lf.take 2).reverse ++ s.lf.drop 2, lk := none }
  | .pas => { s with dn := s.dn ++ s.lf.take 1, lf := s.lf.drop 1, lk := none }
  | .chn => { s with ls := s.ls ++ [(y, srt (s.lf.take 1 ++ s.lk.toList))], dn := (match s.lk with | none => s.dn | some _ => s.dn.dropLast) ++ [(s.ls.length : Int)], lf := s.lf.drop 1, lk := some s.ls.length }
  | .st j k => { ls := (knit y (srt (s.lf.take j)) k (s.ls, s.dn)).1, dn := (knit y (srt (s.lf.take j)) k (s.ls, s.dn)).2, ti := if k = 0 then s.ti ++ s.lf.take j else s.ti, lf := s.lf.drop j, lk := none }
def stepS (y : Str) (q : Sti) (s : Sw) : Option Sw := if s.lf.length < needOf q then none else some (doneS y q s)
def rowS (y : Str) : List Sti → Sw → Option Sw
  | [], s => some s
  | q :: r, s => (stepS y q s).bind (rowS y r)
theorem rowS_app (y : Str) : ∀ (a b : List Sti) (s : Sw), rowS y (a ++ b) s = (rowS y a s).bind (rowS y b)
  | [], b, s => rfl
  | q :: r, b, s => by
    show (stepS y q s).bind (rowS y (r ++ b)) = ((stepS y q s).bind (rowS y r)).bind (rowS y b)
    cases stepS y q s with
    | none => rfl
    | some s' => exact rowS_app y r b s'
theorem rowS_succ {y : Str} {qs : List Sti} {i : Nat} {q : Sti} {s s' : Sw} (h : rowS y (qs.take i) s = some s') (hq : qs[i]? = some q) : rowS y (qs.take (i + 1)) s = stepS y q s' := by
  rw [List.take_add_one, hq, Option.toList_some, rowS_app, h]
  show (stepS y q s').bind (rowS y []) = stepS y q s'
  cases stepS y q s' <;> rfl
/-- the state between rows: loops, tied ones, the needle -/
abbrev St3 := List Lp × List Int × List Int
def rowD (y : Str) (qs : List Sti) (st : St3) : Option St3 := match rowS y qs ⟨st.1, st.2.1, [], st.2.2, none⟩ with
  | some s => if s.lf = [] then some (s.ls, s.ti, s.dn) else none
  | none => none
theorem rowS_fail {y : Str} {qs : List Sti} {i : Nat} {s : Sw} (h : rowS y (qs.take i) s = none) : rowS y qs s = none := by
  rw [← List.take_append_drop i qs, rowS_app, h]
  rfl
/-- what holds throughout -/
structure OkS (ys : List Str) (s : Sw) : Prop where
  ls : OkLs ys s.ls
  nd : (s.ti ++ (s.dn ++ s.lf)).Nodup
  rg : ∀ x ∈ s.ti ++ (s.dn ++ s.lf), 0 ≤ x ∧ x < (s.ls.length : Int)
  lk : ∀ v, s.lk = some v → v ∉ s.lf ∧ 0 ≤ v ∧ v < (s.ls.length : Int) ∧ ∃ d, s.dn = d ++ [v]
structure OkT (ys : List Str) (st : St3) : Prop where
  ls : OkLs ys st.1
  nd : (st.2.1 ++ st.2.2).Nodup
  rg : ∀ x ∈ st.2.1 ++ st.2.2, 0 ≤ x ∧ x < (st.1.length : Int)
theorem OkT.start {ys : List Str} {st : St3} (h : OkT ys st) : OkS ys ⟨st.1, st.2.1, [], st.2.2, none⟩ :=
  ⟨h.ls, by simpa using h.nd, by simpa using h.rg, fun v e => by cases e⟩
def smallQ : Sti → Prop
  | .st j k => j ≤ 3 ∧ k ≤ 3
  | _ => True
theorem knit_len (y : Str) (ps : List Int) : ∀ (k : Nat) (s : List Lp × List Int), (knit y ps k s).1.length = s.1.length + k
  | 0, s => rfl
  | k + 1, s => by
    show ((knit y ps k s).1 ++ [(y, ps)]).length = _
    rw [List.length_append, knit_len y ps k s]
    simp
    omega
theorem knit_dn (y : Str) (ps : List Int) : ∀ (k : Nat) (s : List Lp × List Int), (knit y ps k s).2 = s.2 ++ (List.range k).map (fun i : Nat => ((s.1.length + i : Nat) : Int))
  | 0, s => by simp [knit]
  | k + 1, s => by
    show (knit y ps k s).2 ++ [((knit y ps k s).1.length : Int)] = _
    rw [knit_dn y ps k s, knit_len, List.range_succ, List.map_append, List.append_assoc]
    rfl
theorem knit_ok {ys : List Str} {y : Str} {ps : List Int} (hy : y ∈ ys) (hw : ps.Pairwise (· < ·)) (hl : ps.length ≤ 5) : ∀ (k : Nat) (s : List Lp × List Int), OkLs ys s.1 → (∀ p ∈ ps, 0 ≤ p ∧ p < (s.1.length : Int)) → OkLs ys (knit y ps k s).1
  | 0, s, h, _ => h
  | k + 1, s, h, hp => by
    refine okls_app (knit_ok hy hw hl k s h hp) hy hw hl fun p m => ?_
    have := hp p m
    rw [knit_len]
    omega
theorem OkS.step {ys : List Str} {y : Str} {q : Sti} {s s' : Sw} (h : OkS ys s) (hy : y ∈ ys) (sm : smallQ q) (e : stepS y q s = some s') : OkS ys s' := by
  unfold stepS at e
  split at e
  · cases e
  rename_i enough
  have e' : doneS y q s = s' := Option.some.inj e
  have nl : needOf q ≤ s.lf.length := by omega
  subst e'
  have mem : ∀ {x : Int}, x ∈ s.lf → 0 ≤ x ∧ x < (s.ls.length : Int) := fun hx => h.rg _ (List.mem_append_right _ (List.mem_append_right _ hx))
  have memd : ∀ {x : Int}, x ∈ s.dn → 0 ≤ x ∧ x < (s.ls.length : Int) := fun hx => h.rg _ (List.mem_append_right _ (List.mem_append_left _ hx))
  have memt : ∀ {x : Int}, x ∈ s.ti → 0 ≤ x ∧ x < (s.ls.length : Int) := fun hx => h.rg _ (List.mem_append_left _ hx)
  have ndl : s.lf.Nodup := (List.nodup_append.mp (List.nodup_append.mp h.nd).2.1).2.1
  cases q with
  | crs =>
    have pm : ((s.lf.take 2).reverse ++ s.lf.drop 2).Perm s.lf := ((List.reverse_perm _).append_right _).trans (by rw [List.take_append_drop])
    have all : (s.ti ++ (s.dn ++ ((s.lf.take 2).reverse ++ s.lf.drop 2))).Perm (s.ti ++ (s.dn ++ s.lf)) := (pm.append_left _).append_left _
    exact ⟨h.ls, all.nodup_iff.mpr h.nd, fun x hx => h.rg x (all.mem_iff.mp hx), fun v e => by cases e⟩
  | pas =>
    have all : s.ti ++ ((s.dn ++ s.lf.take 1) ++ s.lf.drop 1) = s.ti ++ (s.dn ++ s.lf) := by rw [List.append_assoc, List.take_append_drop]
    exact ⟨h.ls, by show (s.ti ++ ((s.dn ++ s.lf.take 1) ++ s.lf.drop 1)).Nodup; rw [all]; exact h.nd, fun x hx => h.rg x (all ▸ hx), fun v e => by cases e⟩
  | chn =>
    have n1 : 1 ≤ s.lf.length := nl
    have thr : (s.lf.take 1 ++ s.lk.toList).Nodup := by
      cases e : s.lk with
      | none => simpa using ndl.sublist (List.take_sublist 1 s.lf)
      | some v =>
        refine List.nodup_append.mpr ⟨ndl.sublist (List.take_sublist 1 s.lf), by simp, fun a ha b hb => ?_⟩
        have hb' : b = v := by simpa using hb
        subst hb'
        exact fun z => (h.lk b e).1 (z ▸ List.mem_of_mem_take ha)
    have thrR : ∀ p ∈ srt (s.lf.take 1 ++ s.lk.toList), 0 ≤ p ∧ p < (s.ls.length : Int) := fun p hp => by
      rcases List.mem_append.mp ((srt_perm _).mem_iff.mp hp) with z | z
      · exact mem (List.mem_of_mem_take z)
      · cases e : s.lk with
        | none => rw [e] at z; simp at z
        | some v =>
          rw [e] at z
          obtain rfl : p = v := by simpa using z
          exact ⟨(h.lk p e).2.1, (h.lk p e).2.2.1⟩
    have thrL : (srt (s.lf.take 1 ++ s.lk.toList)).length ≤ 5 := by
      rw [(srt_perm _).length_eq, List.length_append, List.length_take]
      cases s.lk <;> simp <;> omega
    have fresh : ∀ x ∈ s.ti ++ (s.dn ++ s.lf), x ≠ (s.ls.length : Int) := fun x hx => by
      have := h.rg x hx
      omega
    obtain ⟨d0, hd0⟩ : ∃ d0, (match s.lk with | none => s.dn | some _ => s.dn.dropLast) = d0 := ⟨_, rfl⟩
    have sub0 : d0.Sublist s.dn := by
      rw [← hd0]
      cases s.lk with
      | none => exact List.Sublist.refl _
      | some v => exact List.dropLast_sublist _
    have sub : (s.ti ++ (d0 ++ s.lf.drop 1)).Sublist (s.ti ++ (s.dn ++ s.lf)) := (List.Sublist.refl _).append (sub0.append (List.drop_sublist 1 s.lf))
    have pm : (s.ti ++ ((d0 ++ [(s.ls.length : Int)]) ++ s.lf.drop 1)).Perm ((s.ls.length : Int) :: (s.ti ++ (d0 ++ s.lf.drop 1))) := by
      rw [List.append_assoc, List.singleton_append]
      exact (List.perm_middle.append_left _).trans List.perm_middle
    refine ⟨okls_app h.ls hy (srt_lt thr) thrL thrR, ?_, ?_, ?_⟩
    · show (s.ti ++ (((match s.lk with | none => s.dn | some _ => s.dn.dropLast) ++ [(s.ls.length : Int)]) ++ s.lf.drop 1)).Nodup
      rw [hd0]
      exact pm.nodup_iff.mpr (List.nodup_cons.mpr ⟨fun hx => fresh _ (sub.subset hx) rfl, h.nd.sublist sub⟩)
    · intro x hx
      have hx' : x ∈ s.ti ++ (((match s.lk with | none => s.dn | some _ => s.dn.dropLast) ++ [(s.ls.length : Int)]) ++ s.lf.drop 1) := hx
      rw [hd0] at hx'
      show 0 ≤ x ∧ x < ((s.ls ++ [_]).length : Int)
      rw [List.length_append]
      rcases List.mem_cons.mp (pm.mem_iff.mp hx') with z | z
      · subst z
        simp
        omega
      · have := h.rg x (sub.subset z)
        simp
        omega
    · intro v e
      obtain rfl : (s.ls.length : Int) = v := Option.some.inj e
      refine ⟨fun hx => ?_, by omega, ?_, ⟨_, rfl⟩⟩
      · have := mem (List.mem_of_mem_drop hx)
        omega
      · show (s.ls.length : Int) < ((s.ls ++ [_]).length : Int)
        rw [List.length_append]
        simp
        omega
  | st j k =>
    have psn : (s.lf.take j).Nodup := ndl.sublist (List.take_sublist j s.lf)
    have psr : ∀ p ∈ srt (s.lf.take j), 0 ≤ p ∧ p < (s.ls.length : Int) := fun p hp => mem (List.mem_of_mem_take ((srt_perm _).mem_iff.mp hp))
    have psl : (srt (s.lf.take j)).length ≤ 5 := by
      rw [(srt_perm _).length_eq, List.length_take]
      have := sm.1
      omega
    have len := knit_len y (srt (s.lf.take j)) k (s.ls, s.dn)
    have dn := knit_dn y (srt (s.lf.take j)) k (s.ls, s.dn)
    have new : ∀ x ∈ (List.range k).map (fun i : Nat => ((s.ls.length + i : Nat) : Int)), (s.ls.length : Int) ≤ x ∧ x < ((s.ls.length + k : Nat) : Int) := fun x hx => by
      obtain ⟨i, hi, rfl⟩ := List.mem_map.mp hx
      have := List.mem_range.mp hi
      omega
    have newN : ((List.range k).map (fun i : Nat => ((s.ls.length + i : Nat) : Int))).Nodup := by
      refine List.Pairwise.map _ (fun a b (hab : a ≠ b) => ?_) List.nodup_range
      omega
    obtain ⟨T, hT⟩ : ∃ T, (if k = 0 then s.ti ++ s.lf.take j else s.ti) = T := ⟨_, rfl⟩
    have old : (T ++ (s.dn ++ s.lf.drop j)).Nodup ∧ ∀ x ∈ T ++ (s.dn ++ s.lf.drop j), 0 ≤ x ∧ x < (s.ls.length : Int) := by
      have pm0 : ((s.ti ++ s.lf.take j) ++ (s.dn ++ s.lf.drop j)).Perm (s.ti ++ (s.dn ++ s.lf)) := by
        rw [List.append_assoc]
        refine List.Perm.append_left _ ?_
        rw [← List.append_assoc]
        refine (List.perm_append_comm.append_right _).trans ?_
        rw [List.append_assoc, List.take_append_drop]
      by_cases z : k = 0
      · rw [if_pos z] at hT
        subst hT
        exact ⟨pm0.nodup_iff.mpr h.nd, fun x hx => h.rg x (pm0.mem_iff.mp hx)⟩
      · rw [if_neg z] at hT
        subst hT
        have sub : (s.ti ++ (s.dn ++ s.lf.drop j)).Sublist (s.ti ++ (s.dn ++ s.lf)) := (List.Sublist.refl _).append ((List.Sublist.refl _).append (List.drop_sublist j s.lf))
        exact ⟨h.nd.sublist sub, fun x hx => h.rg x (sub.subset hx)⟩
    have pm : (T ++ ((s.dn ++ (List.range k).map (fun i : Nat => ((s.ls.length + i : Nat) : Int))) ++ s.lf.drop j)).Perm ((List.range k).map (fun i : Nat => ((s.ls.length + i : Nat) : Int)) ++ (T ++ (s.dn ++ s.lf.drop j))) := by
      rw [List.append_assoc]
      refine (List.Perm.append_left _ ?_).trans (?_ : (T ++ ((List.range k).map (fun i : Nat => ((s.ls.length + i : Nat) : Int)) ++ (s.dn ++ s.lf.drop j))).Perm _)
      · rw [← List.append_assoc, ← List.append_assoc]
        exact List.perm_append_comm.append_right _
      · exact List.perm_append_comm_assoc _ _ _
    refine ⟨knit_ok hy (srt_lt psn) psl k (s.ls, s.dn) h.ls psr, ?_, ?_, fun v e => by cases e⟩
    · show ((if k = 0 then s.ti ++ s.lf.take j else s.ti) ++ ((knit y (srt (s.lf.take j)) k (s.ls, s.dn)).2 ++ s.lf.drop j)).Nodup
      rw [hT, dn]
      refine pm.nodup_iff.mpr (List.nodup_append.mpr ⟨newN, old.1, fun a ha b hb => ?_⟩)
      have h1 := new a ha
      have h2 := old.2 b hb
      omega
    · intro x hx
      have hx' : x ∈ (if k = 0 then s.ti ++ s.lf.take j else s.ti) ++ ((knit y (srt (s.lf.take j)) k (s.ls, s.dn)).2 ++ s.lf.drop j) := hx
      rw [hT, dn] at hx'
      show 0 ≤ x ∧ x < ((knit y (srt (s.lf.take j)) k (s.ls, s.dn)).1.length : Int)
      rw [len]
      rcases List.mem_append.mp (pm.mem_iff.mp hx') with z | z
      · have := new x z
        show 0 ≤ x ∧ x < ((s.ls.length + k : Nat) : Int)
        omega
      · have := old.2 x z
        show 0 ≤ x ∧ x < ((s.ls.length + k : Nat) : Int)
        omega
theorem OkS.row {ys : List Str} {y : Str} (hy : y ∈ ys) : ∀ {qs : List Sti} {s s' : Sw}, (∀ q ∈ qs, smallQ q) → OkS ys s → rowS y qs s = some s' → OkS ys s'
  | [], s, s', _, h, e => by cases e; exact h
  | q :: r, s, s', sm, h, e => by
    unfold rowS at e
    cases e1 : stepS y q s with
    | none => rw [e1] at e; cases e
    | some s1 =>
      rw [e1] at e
      exact OkS.row hy (fun q' hq => sm q' (List.mem_cons_of_mem _ hq)) (h.step hy (sm q List.mem_cons_self) e1) e
theorem OkT.row {ys : List Str} {y : Str} {qs : List Sti} {st st' : St3} (h : OkT ys st) (hy : y ∈ ys) (sm : ∀ q ∈ qs, smallQ q) (e : rowD y qs st = some st') : OkT ys st' := by
  unfold rowD at e
  cases e1 : rowS y qs ⟨st.1, st.2.1, [], st.2.2, none⟩ with
  | none => rw [e1] at e; cases e
  | some s =>
    rw [e1] at e
    dsimp only at e
    split at e
    · rename_i nil
      cases e
      have o := OkS.row hy sm h.start e1
      refine ⟨o.ls, ?_, ?_⟩
      · have := o.nd
        rw [nil, List.append_nil] at this
        exact this
      · have := o.rg
        rw [nil, List.append_nil] at this
        exact this
    · cases e
/-- rows one after the other -/
def workD : List (Str × List Sti) → St3 → Option St3
  | [], st => some st
  | (y, qs) :: r, st => (rowD y qs st).bind (workD r)
theorem workD_app : ∀ (a b : List (Str × List Sti)) (st : St3), workD (a ++ b) st = (workD a st).bind (workD b)
  | [], b, st => rfl
  | (y, qs) :: r, b, st => by
    show (rowD y qs st).bind (workD (r ++ b)) = ((rowD y qs st).bind (workD r)).bind (workD b)
    cases rowD y qs st with
    | none => rfl
    | some st' => exact workD_app r b st'
def laid (y : Str) (n : Nat) : St3 := (List.replicate n (y, []), [], (List.range n).map fun i : Nat => (i : Int))
theorem laid_ok {ys : List Str} {y : Str} (n : Nat) (hy : y ∈ ys) : OkT ys (laid y n) := by
  refine ⟨fun k l e => ?_, ?_, fun x hx => ?_⟩
  · have hm := List.mem_of_getElem? e
    obtain rfl := (List.mem_replicate.mp hm).2
    exact ⟨hy, List.Pairwise.nil, Nat.zero_le _, fun p hp => absurd hp List.not_mem_nil⟩
  · show ([] ++ (List.range n).map fun i : Nat => (i : Int)).Nodup
    rw [List.nil_append]
    refine List.Pairwise.map _ (fun a b (hab : a ≠ b) => ?_) List.nodup_range
    omega
  · have hx' : x ∈ (List.range n).map fun i : Nat => (i : Int) := hx
    obtain ⟨i, hi, rfl⟩ := List.mem_map.mp hx'
    have := List.mem_range.mp hi
    show 0 ≤ (i : Int) ∧ (i : Int) < ((List.replicate n (y, ([] : List Int))).length : Int)
    rw [List.length_replicate]
    omega
end B7
namespace B7
open PySem PySem.Spec PyProof.Rows L2 LK
/-- over a text's signs -/
theorem lc_str {x : Str} {g : TG} {tt : TT} {te : TE} {vs : List Nat} {σ : L2.St} {H1 : Hp} {D : Addr} {Qd : Hp → Prop} (Pv : Nat → Hp → Prop) (h0 : Pv 0 (upd H1 D (.lst [])))
    (hs : ∀ i c H, x.cps.toList[i]? = some c → Pv i H → g (.str ⟨#[c]⟩) (wipe σ vs) H fun σ2 H2 => wipe σ2 vs = wipe σ vs ∧ tt σ2 H2 fun b H3 =>
      if b = true then te σ2 H3 fun y H4 => ∃ acc, H4 D = some (.lst acc) ∧ acc.length < sizeLine ∧ Pv (i + 1) (upd H4 D (.lst (acc ++ [y]))) else Pv (i + 1) H3) (hd : ∀ H, Pv x.cps.toList.length H → Qd H) :
    ∃ W : Nat → Nat → Hp → Prop, (∃ m, W 0 m (upd H1 D (.lst []))) ∧ ∀ i m H, W i m H →
      ((Its x).stop i H ∧ Qd H) ∨ ((Its x).go i H ∧ ∃ Nx : Hp → Prop, (∀ H', Nx H' → ∃ m', m' < m ∧ W (i + 1) m' H') ∧ ∀ v H', (Its x).yld i H v H' → g v (wipe σ vs) H' fun σ2 H2 => wipe σ2 vs = wipe σ vs ∧ tt σ2 H2 fun b H3 =>
        if b = true then te σ2 H3 fun y H4 => ∃ acc, H4 D = some (.lst acc) ∧ acc.length < sizeLine ∧ Nx (upd H4 D (.lst (acc ++ [y]))) else Nx H3) := by
  refine ⟨fun i m H => m = x.cps.toList.length - i ∧ i ≤ x.cps.toList.length ∧ Pv i H, ⟨x.cps.toList.length, by simp, Nat.zero_le _, h0⟩, ?_⟩
  rintro i m H ⟨rfl, hi, p⟩
  by_cases hlt : i < x.cps.toList.length
  · have hlt' : i < x.cps.size := by simpa using hlt
    refine .inr ⟨hlt', Pv (i + 1), fun H' p' => ⟨x.cps.toList.length - (i + 1), by omega, rfl, hlt, p'⟩, fun v H' y => ?_⟩
    obtain ⟨e, c, hc, ev⟩ := y
    subst e ev
    exact hs i c _ (by simpa using hc) p
  · have e : i = x.cps.toList.length := by omega
    subst e
    refine .inl ⟨?_, hd H p⟩
    show x.cps.size ≤ x.cps.toList.length
    simp
/-- what the program asks of an integer, a number, a thread -/
def isIntD : PyData → Bool
  | .int _ => true
  | _ => false
def isNumD (many : Int) : PyData → Bool
  | .int i => decide (0 ≤ i ∧ i < many)
  | _ => false
def isThrD : PyData → Bool
  | .str z => decide (1 ≤ z.length ∧ z.length ≤ 8) && z.cps.toList.all fun c => decide (97 ≤ c ∧ c ≤ 122)
  | _ => false
def spInt (K : PySem.W.Frag) : Sp := fun vs H Q _ => ∃ (v : V) (d : PyData), vs = [v] ∧ Dp K H v d ∧ ∀ H', Same H H' → Q (.bl (isIntD d)) H'
def spNum (K : PySem.W.Frag) : Sp := fun vs H Q _ => ∃ (v : V) (d : PyData) (many : Int), vs = [v, .int many] ∧ Dp K H v d ∧ ∀ H', Same H H' → Q (.bl (isNumD many d)) H'
mutual
/-- short texts, short lists, all the way down -/
def tame : PyData → Bool
  | .list xs => decide (xs.length ≤ 1000) && tameAll xs
  | .tuple xs => decide (xs.length ≤ 1000) && tameAll xs
  | .str z => decide (z.length ≤ 1000)
  | _ => true
def tameAll : List PyData → Bool
  | [] => true
  | x :: r => tame x && tameAll r
end
theorem tame_mem : ∀ {ds : List PyData} {d : PyData}, tameAll ds = true → d ∈ ds → tame d = true
  | x :: r, d, h, e => by
    rw [tameAll, Bool.and_eq_true] at h
    rcases List.mem_cons.mp e with rfl | e
    · exact h.1
    · exact tame_mem h.2 e
theorem abc_mem {c : Nat} : c ∈ abc.cps.toList ↔ 97 ≤ c ∧ c ≤ 122 := by
  have : abc.cps.toList = List.range' 97 26 := by decide +kernel
  rw [this, List.mem_range'_1]
  omega
theorem sh_signs {z : Str} (h : PyData.canLay0 (.str z) = true) (f : Nat → Bool) : ∀ n, SeqAt.shaped (.list ((((z.cps.toList.take n).filter f).map fun c => (⟨#[c]⟩ : Str)).map PyData.str)) = true := fun n => by
  have hz : ∀ c ∈ z.cps.toList, c < 0x110000 := fun c hc => by
    have h' : z.cps.all (· < 0x110000) = true := h
    rw [Array.all_eq_true_iff_forall_mem] at h'
    exact of_decide_eq_true (h' c (by simpa using hc))
  have g : ∀ cs : List Nat, (∀ c ∈ cs, c < 0x110000) → PyData.canLayAll0 ((cs.map fun c => (⟨#[c]⟩ : Str)).map PyData.str) = true ∧ PyData.depthAll ((cs.map fun c => (⟨#[c]⟩ : Str)).map PyData.str) = 0 := by
    intro cs
    induction cs with
    | nil => exact fun _ => ⟨rfl, rfl⟩
    | cons c r ih =>
      intro hc
      obtain ⟨a, b⟩ := ih fun x hx => hc x (List.mem_cons_of_mem _ hx)
      constructor
      · rw [List.map_cons, List.map_cons, PyData.canLayAll0, a, Bool.and_true]
        show (#[c]).all (· < 0x110000) = true
        simp [hc c (List.mem_cons_self ..)]
      · rw [List.map_cons, List.map_cons, PyData.depthAll, b]
        rfl
  obtain ⟨a, b⟩ := g ((z.cps.toList.take n).filter f) fun c hc => hz c (List.mem_of_mem_take (List.mem_filter.mp hc).1)
  refine shaped_of (by simpa only [PyData.canLay0] using a) ?_
  simp only [PyData.depth, b]
  decide
theorem sz1000 : 1000 ≤ sizeLine := by decide
def spThr (K : PySem.W.Frag) : Sp := fun vs H Q _ => ∃ (v : V) (d : PyData), vs = [v] ∧ Dp K H v d ∧ tame d = true ∧ d.canLay0 = true ∧ ∀ H', Same H H' → Q (.bl (isThrD d)) H'
def spSpot (K : PySem.W.Frag) : Sp := fun vs H Q _ => ∃ (v : V) (d : PyData) (many : Int), vs = [.int many, v] ∧ Dp K H v d ∧ ∀ H', Same H H' → Q (.bl (isNumD many d)) H'
theorem isK_int {d : PyData} : (isK d "int" && !isK d "bool") = isIntD d := by
  cases d <;> rfl
theorem int_of {K : PySem.W.Frag} {H : Hp} {v : V} {d : PyData} (h : Dp K H v d) (e : isIntD d = true) : ∃ i, v = .int i ∧ d = .int i := by
  cases h with
  | int i => exact ⟨i, rfl, rfl⟩
  | _ => exact absurd e (by simp [isIntD])
theorem str_of {K : PySem.W.Frag} {H : Hp} {v : V} {d : PyData} (h : Dp K H v d) (e : isK d "str" = true) : ∃ z, v = .str z ∧ d = .str z := by
  cases h with
  | str z => exact ⟨z, rfl, rfl⟩
  | non => exact absurd e (by decide +kernel)
  | bl b => exact absurd (show isK (.bool true) "str" = true from e) (by decide +kernel)
  | int i => exact absurd (show isK (.int 0) "str" = true from e) (by decide +kernel)
  | lst _ _ => exact absurd (show isK (.list []) "str" = true from e) (by decide +kernel)
  | tup _ _ => exact absurd (show isK (.tuple []) "str" = true from e) (by decide +kernel)
section
variable {P : Program} {w : World} {K : PySem.W.Frag} {mg : Str → Option Value} {base : Heap}
abbrev sIsInt : Stmt := top 10
theorem scIsInt : FnScope ["value"] ["value"] (defScope sIsInt) := ⟨rfl, rfl, rfl, by decide +kernel, rfl, by decide +kernel, by decide +kernel⟩
theorem ok_IsInt {f : Addr} {fd : FuncData} (F : Fun K "is_integer" "is_integer" sIsInt f fd) (B : Bl mg) : FnOk P w K mg base CX0 1 f fd ["value"] (spInt K) := by
  refine F.ok scIsInt (fun vs H Q E h => ?_) (fun cdv A outer s H vs Q E hr h => ?_)
  · obtain ⟨v, d, rfl, _⟩ := h
    rfl
  · obtain ⟨v, d, rfl, h1, k⟩ := h
    refine ⟨_, pss_one (ps_ret (pe_and (pe_callB call_isi (by rfl) (B "isinstance" (by decide)) (by decide +kernel) (pa_cons (pv 0) (pa_cons (pe_bltn (v := .ty "int") rfl (B "int" (by decide)) (by decide +kernel) rfl) pa_nil))) (pe_one (pe_not (pe_callB call_isi (by rfl) (B "isinstance" (by decide)) (by decide +kernel) (pa_cons (pv 0) (pa_cons (pe_bltn (v := .ty "bool") rfl (B "bool" (by decide)) (by decide +kernel) rfl) pa_nil))))))), ?_⟩
    rw [← isK_int] at k
    refine ⟨_, rfl, _, _, _, _, _, rfl, .ty "int", dp_ty h1, kit_d h1 "int" (by decide), _, rfl, ?_⟩
    cases e : isK d "int" with
    | false =>
      refine LK.ifF rfl ?_
      have := k H (Same.refl H)
      rwa [e] at this
    | true =>
      refine LK.ifT rfl ⟨_, rfl, _, _, _, _, _, rfl, .ty "bool", dp_ty h1, kit_d h1 "bool" (by decide), _, rfl, ?_⟩
      have := k H (Same.refl H)
      rwa [e] at this
abbrev sIsNum : Stmt := top 11
theorem scIsNum : FnScope ["value", "many"] ["value", "many"] (defScope sIsNum) := ⟨rfl, rfl, rfl, by decide +kernel, rfl, by decide +kernel, by decide +kernel⟩
theorem ok_IsNum {f : Addr} {fd : FuncData} (F : Fun K "is_number" "is_number" sIsNum f fd) (B : Bl mg) {fi : Addr} {fdi : FuncData} (Gi : FnOk P w K mg base CX0 1 fi fdi ["value"] (spInt K)) (gi : mg "is_integer" = some (.ref fi)) (ki : PySem.W.keepIn K (.ref fi) = true) (bi : Binds K fdi ["value"] []) : FnOk P w K mg base CX0 2 f fd ["value", "many"] (spNum K) := by
  refine F.ok scIsNum (fun vs H Q E h => ?_) (fun cdv A outer s H vs Q E hr h => ?_)
  · obtain ⟨v, d, many, rfl, _⟩ := h
    rfl
  · obtain ⟨v, d, many, rfl, h1, k⟩ := h
    refine ⟨_, pss_one (ps_ret (pe_and (pe_call (E := E0) Gi (hr.mono (by decide)) rfl gi ki bi .nil pass0 (pa_cons (pv 0) pa_nil)) (pe_one (pe_chain op_le op_lt pe_int (pv 0) (pv 1))))), ?_⟩
    refine ⟨_, rfl, v, d, rfl, h1, fun H1 s1 => ⟨_, rfl, ?_⟩⟩
    cases e : isIntD d with
    | false =>
      refine LK.ifF rfl ?_
      have := k H1 s1
      have en : isNumD many d = false := by
        cases d <;> first | rfl | exact absurd e (by simp [isIntD])
      rwa [en] at this
    | true =>
      obtain ⟨i, rfl, rfl⟩ := int_of h1 e
      refine LK.ifT rfl ⟨_, rfl, _, _, rfl, rfl, _, rfl, ?_⟩
      have kk := k H1 s1
      rw [isNumD] at kk
      by_cases c0 : 0 ≤ i
      · refine LK.ifT (decide_eq_true c0) ⟨_, rfl, _, _, rfl, rfl, ?_⟩
        rwa [show decide (0 ≤ i ∧ i < many) = decide (i < many) by simp [c0]] at kk
      · refine LK.ifF (decide_eq_false c0) ?_
        rwa [show decide (0 ≤ i ∧ i < many) = false by simp [c0]] at kk
abbrev sIsThr : Stmt := top 12
theorem scIsThr : FnScope ["value", "sign"] ["value"] (defScope sIsThr) := ⟨rfl, rfl, rfl, by decide +kernel, rfl, by decide +kernel, by decide +kernel⟩
theorem ok_IsThr {f : Addr} {fd : FuncData} (F : Fun K "is_thread" "is_thread" sIsThr f fd) (B : Bl mg) (gL : ∃ t, mg "LONGEST_THREAD" = some (.int 8 t)) : FnOk P w K mg base CX0 1 f fd ["value"] (spThr K) := by
  refine F.ok scIsThr (fun vs H Q E h => ?_) (fun cdv A outer s H vs Q E hr h => ?_)
  · obtain ⟨v, d, rfl, _⟩ := h
    rfl
  · obtain ⟨v, d, rfl, h1, tm, lay, k⟩ := h
    obtain ⟨tk, gL⟩ := gL
    refine ⟨_, pss_cons (ps_if (PW.pt (pw_or (pt_not (pt_val (pe_callB call_isi (by rfl) (B "isinstance" (by decide)) (by decide +kernel) (pa_cons (pv 0) (pa_cons (pe_bltn (v := .ty "str") rfl (B "str" (by decide)) (by decide +kernel) rfl) pa_nil))))) (pw_or1 (pt_not (pt_chain op_le op_le pe_int (pe_callB call_len_str (by rfl) (B "len" (by decide)) (by decide +kernel) (pa_cons (pv 0) pa_nil)) (pe_glob (v := .int 8) rfl gL ⟨_, rfl⟩)))))) (pss_one (ps_ret pe_bl)) pss_nil)
      (pss_one (ps_ret (pe_callB (cr_all rfl) (by rfl) (B "all" (by decide)) (by decide +kernel) (pa_cons (pe_lc (own := [("sign", 1)]) (g := gName 1) (tt := tYes) rfl scIsThr.nd (pi_str (pv 0)) (blkOk_by (N := ["value", "sign"]) (sc := defScope sIsThr) (by decide +kernel)) (fun _ _ _ _ _ => pg_name (i := 1) scIsThr.nd rfl (Or.inl rfl)) (fun _ _ _ _ _ => pts_nil) (fun _ _ _ _ _ => pe_chain op_le_str op_le_str pe_str (pv 1) pe_str)) pa_nil)))), ?_⟩
    refine ⟨_, rfl, _, _, _, _, _, rfl, .ty "str", dp_ty h1, kit_d h1 "str" (by decide), _, rfl, ?_⟩
    have kk := k H (Same.refl H)
    cases e : isK d "str" with
    | false =>
      refine LK.ifT rfl (LK.ifT rfl ?_)
      have en : isThrD d = false := by
        cases d <;> first | rfl | exact absurd (show isK (.str "") "str" = false from e) (by decide +kernel)
      rwa [en] at kk
    | true =>
      obtain ⟨z, rfl, rfl⟩ := str_of h1 e
      have zl : z.length ≤ sizeLine := Nat.le_trans (of_decide_eq_true tm) sz1000
      refine LK.ifF rfl ⟨_, rfl, z, rfl, zl, _, _, rfl, rfl, _, rfl, ?_⟩
      have no : ¬ (1 ≤ z.length ∧ z.length ≤ 8) → isThrD (.str z) = false := fun n => by
        rw [isThrD, decide_eq_false n, Bool.false_and]
      by_cases c1 : (1 : Int) ≤ (z.length : Int)
      · refine LK.ifT (decide_eq_true c1) ⟨_, _, rfl, rfl, _, rfl, ?_⟩
        by_cases c2 : (z.length : Int) ≤ 8
        · refine LK.ifF (by simp [c2]) ⟨_, rfl, z, rfl, fun D nD => ?_⟩
          refine lc_str (x := z) (fun j H' => H' D = some (.lst ((((z.cps.toList.take j).map fun c => decide (97 ≤ c ∧ c ≤ 122)).map V.bl))) ∧ Same H H') ⟨upd_same, same_new nD⟩ (fun j c H' hj hh => ⟨rfl, ?_⟩) (fun H' hh => ?_)
          · obtain ⟨hD, s1⟩ := hh
            have fin : ∀ b : Bool, b = decide (97 ≤ c ∧ c ≤ 122) → ∃ acc, H' D = some (.lst acc) ∧ acc.length < sizeLine ∧ (L2.upd H' D (.lst (acc ++ [V.bl b])) D = some (.lst ((((z.cps.toList.take (j + 1)).map fun c => decide (97 ≤ c ∧ c ≤ 122)).map V.bl))) ∧ Same H (L2.upd H' D (.lst (acc ++ [V.bl b])))) := by
              rintro b rfl
              refine ⟨_, hD, ?_, ?_, fun b o e => ?_⟩
              · rw [List.length_map, List.length_map, List.length_take]
                have : z.cps.toList.length = z.length := by simp [Str.length]
                have : j < z.length := by
                  have := (List.getElem?_eq_some_iff.mp hj).1
                  omega
                exact Nat.lt_of_lt_of_le (by omega : _ < 100) (by decide)
              · rw [upd_same, List.take_succ, hj, List.map_append, List.map_append]
                rfl
              · rw [upd_ne (ne_of_none e nD)]
                exact s1 b o e
            have a1 : decide ([c] < ([97] : List Nat)) = decide (c < 97) := by simp [List.cons_lt_cons_iff]
            have a2 : decide (([122] : List Nat) < [c]) = decide (122 < c) := by simp [List.cons_lt_cons_iff]
            refine ⟨_, rfl, _, _, rfl, rfl, _, rfl, ?_⟩
            show if (!decide ([c] < ([97] : List Nat))) = true then _ else _
            rw [a1]
            by_cases k1 : c < 97
            · rw [decide_eq_true k1]
              exact LK.ifF rfl (fin false (by simp; omega))
            · rw [decide_eq_false k1]
              refine LK.ifT rfl ⟨_, _, rfl, rfl, fin _ ?_⟩
              show (!decide (([122] : List Nat) < [c])) = _
              rw [a2]
              rw [Bool.eq_iff_iff]
              simp
              omega
          · obtain ⟨hD, s1⟩ := hh
            refine ⟨D, _, rfl, SqL.of hD, ?_⟩
            have kk := k H' s1
            rw [isThrD, decide_eq_true ⟨by omega, by omega⟩, Bool.true_and] at kk
            rw [List.take_length, List.all_map]
            exact kk
        · refine LK.ifT (by simp [c2]) ?_
          rwa [no (by omega)] at kk
      · refine LK.ifF (decide_eq_false c1) ⟨_, rfl, LK.ifT rfl ?_⟩
        rwa [no (by omega)] at kk
end
end B7
namespace B7
open PySem PySem.Spec PyProof.Rows L2 LK
/-- a loop over enumerate of a list that stands still -/
theorem for_enum {K : PySem.W.Frag} {a : Addr} {xs : List V} {g : TG} {tb : TS} {D : Ends} {σ : L2.St} {H : Hp} (Pv : Nat → L2.St → Hp → Prop) (h0 : Pv 0 σ H) (hq : ∀ i σ H, Pv i σ H → SqL K H a xs)
    (hs : ∀ (i : Nat) (x : V) (T : Addr) (σ : L2.St) (H : Hp), xs[i]? = some x → Pv i σ H → H T = none → g (.ref T) σ (upd H T (.tup [.int (i : Nat), x])) fun σ2 H2 => tb { D with nx := Pv (i + 1), ct := Pv (i + 1), bk := D.nx } σ2 H2) (hd : ∀ σ H, Pv xs.length σ H → D.nx σ H) :
    ∃ W : Nat → Nat → L2.St → Hp → Prop, (∃ m, W 0 m σ H) ∧ ∀ i m σ H, W i m σ H →
      ((Ite K a).stop i H ∧ D.nx σ H) ∨ ((Ite K a).go i H ∧ ∃ N : L2.St → Hp → Prop, (∀ σ' H', N σ' H' → ∃ m', m' < m ∧ W (i + 1) m' σ' H') ∧ ∀ v H', (Ite K a).yld i H v H' → g v σ H' fun σ2 H2 => tb { D with nx := N, ct := N, bk := D.nx } σ2 H2) := by
  refine ⟨fun i m σ H => m = xs.length - i ∧ i ≤ xs.length ∧ Pv i σ H, ⟨xs.length, rfl, Nat.zero_le _, h0⟩, ?_⟩
  rintro i m σ H ⟨rfl, hi, p⟩
  have qx := hq i σ H p
  by_cases hlt : i < xs.length
  · have hx : xs[i]? = some xs[i] := List.getElem?_eq_getElem hlt
    refine .inr ⟨⟨xs, _, qx, hx⟩, Pv (i + 1), fun σ' H' p' => ⟨xs.length - (i + 1), by omega, rfl, hlt, p'⟩, fun v H' y => ?_⟩
    obtain ⟨T, x', rfl, hT, rfl, f1⟩ := y
    exact hs i x' T σ H (f1 xs qx) p hT
  · have e : i = xs.length := by omega
    subst e
    exact .inl ⟨⟨xs, qx, Nat.le_refl _⟩, hd σ H p⟩
def hasInt (ds : List PyData) (i : Int) : Bool := ds.any fun d => match d with
  | .int j => j == i
  | _ => false
/-- the number at k is none, or stands ahead already -/
def lotBad (many : Int) (ds : List PyData) (k : Nat) : Bool := match ds[k]? with
  | some (.int i) => !decide (0 ≤ i ∧ i < many) || hasInt (ds.take k) i
  | some _ => true
  | none => false
def lotFault (many : Int) : PyData → Option Int
  | .list ds => ((List.range ds.length).find? (lotBad many ds)).map fun k : Nat => (k : Int)
  | _ => some (-1)
def optV : Option Int → V
  | none => .non
  | some i => .int i
def spLot (K : PySem.W.Frag) : Sp := fun vs H Q _ => ∃ (v : V) (d : PyData) (many : Int), vs = [v, .int many] ∧ Dp K H v d ∧ tame d = true ∧ ∀ H', Same H H' → Q (optV (lotFault many d)) H'
def spLot2 (K : PySem.W.Frag) : Sp := fun vs H Q _ => ∃ (v : V) (d : PyData) (many : Int), vs = [.int many, v] ∧ Dp K H v d ∧ tame d = true ∧ ∀ H', Same H H' → Q (optV (lotFault many d)) H'
theorem list_of {K : PySem.W.Frag} {H : Hp} {v : V} {d : PyData} (h : Dp K H v d) (e : isK d "list" = true) : ∃ a xs ds, v = .ref a ∧ d = .list ds ∧ SqL K H a xs ∧ DpAll K H xs ds := by
  cases h with
  | lst s a => exact ⟨_, _, _, rfl, rfl, s, a⟩
  | non => exact absurd e (by decide +kernel)
  | bl b => exact absurd (show isK (.bool true) "list" = true from e) (by decide +kernel)
  | int i => exact absurd (show isK (.int 0) "list" = true from e) (by decide +kernel)
  | str z => exact absurd (show isK (.str "") "list" = true from e) (by decide +kernel)
  | tup _ _ => exact absurd (show isK (.tuple []) "list" = true from e) (by decide +kernel)
theorem tup_of {K : PySem.W.Frag} {H : Hp} {v : V} {d : PyData} (h : Dp K H v d) (e : isK d "tuple" = true) : ∃ a xs ds, v = .ref a ∧ d = .tuple ds ∧ SqT K H a xs ∧ DpAll K H xs ds := by
  cases h with
  | tup s a => exact ⟨_, _, _, rfl, rfl, s, a⟩
  | non => exact absurd e (by decide +kernel)
  | bl b => exact absurd (show isK (.bool true) "tuple" = true from e) (by decide +kernel)
  | int i => exact absurd (show isK (.int 0) "tuple" = true from e) (by decide +kernel)
  | str z => exact absurd (show isK (.str "") "tuple" = true from e) (by decide +kernel)
  | lst _ _ => exact absurd (show isK (.list []) "tuple" = true from e) (by decide +kernel)
theorem lot_no {many : Int} {d : PyData} (e : isK d "list" = false) : lotFault many d = some (-1) := by
  cases d <;> first | rfl | exact absurd (show isK (.list []) "list" = false from e) (by decide +kernel)
theorem find_all {p : Nat → Bool} {n : Nat} (h : ∀ k < n, p k = false) : (List.range n).find? p = none := by
  rw [List.find?_eq_none]
  intro x hx
  simp [h x (List.mem_range.mp hx)]
theorem find_at {p : Nat → Bool} {n k : Nat} (hk : k < n) (h : ∀ j < k, p j = false) (hp : p k = true) : (List.range n).find? p = some k := by
  have e : List.range n = List.range k ++ k :: (List.range' (k + 1) (n - k - 1)) := by
    have h1 : n = k + (n - k) := by omega
    have h2 : n - k = (n - k - 1) + 1 := by omega
    rw [List.range_eq_range', List.range_eq_range', h1, ← List.range'_append_1, Nat.zero_add, show k + (n - k) - k = n - k by omega, h2, List.range'_succ]
    rfl
  rw [e, List.find?_append, find_all h, Option.none_or, List.find?_cons, hp]
theorem lotBad_no {many : Int} {ds : List PyData} {k : Nat} {d : PyData} (e : ds[k]? = some d) (n : isNumD many d = false) : lotBad many ds k = true := by
  unfold lotBad
  rw [e]
  cases d with
  | int i =>
    rw [isNumD] at n
    show (!decide (0 ≤ i ∧ i < many) || _) = true
    rw [n]
    rfl
  | _ => rfl
theorem lotBad_int {many : Int} {ds : List PyData} {k : Nat} {i : Int} (e : ds[k]? = some (.int i)) (n : isNumD many (.int i) = true) : lotBad many ds k = hasInt (ds.take k) i := by
  unfold lotBad
  rw [e]
  rw [isNumD] at n
  show (!decide (0 ≤ i ∧ i < many) || _) = _
  rw [n]
  rfl
theorem num_int {many : Int} {d : PyData} (n : isNumD many d = true) : isIntD d = true := by
  cases d <;> first | rfl | exact absurd n (by simp [isNumD])
theorem hasInt_more {ds : List PyData} {k : Nat} {i : Int} (e : ds[k]? = some (.int i)) : hasInt (ds.take (k + 1)) = fun j => hasInt (ds.take k) j || decide (j = i) := by
  funext j
  unfold hasInt
  rw [List.take_succ, e, List.any_append]
  simp only [Option.toList, List.any_cons, List.any_nil, Bool.or_false]
  congr 1
  rw [Bool.eq_iff_iff]
  simp
  exact ⟨fun h => h.symm, fun h => h.symm⟩
theorem nums_take {K : PySem.W.Frag} {H : Hp} {many : Int} : ∀ {xs : List V} {ds : List PyData} {k : Nat}, DpAll K H xs ds → (∀ j < k, ∀ d, ds[j]? = some d → isNumD many d = true) → ∃ ns : List Int, xs.take k = ns.map V.int ∧ ds.take k = ns.map PyData.int
  | _, _, _, .nil, _ => ⟨[], by simp, by simp⟩
  | _, _, 0, .cons _ _, _ => ⟨[], rfl, rfl⟩
  | _, _, k + 1, .cons a r, h => by
    have h0 := h 0 (by omega) _ rfl
    obtain ⟨i, rfl, rfl⟩ := int_of a (num_int h0)
    obtain ⟨ns, e1, e2⟩ := nums_take (k := k) r fun j hj d e => h (j + 1) (by omega) d e
    exact ⟨i :: ns, by rw [List.take_succ_cons, e1]; rfl, by rw [List.take_succ_cons, e2]; rfl⟩
theorem hasInt_ints (ns : List Int) (i : Int) : hasInt (ns.map PyData.int) i = decide (i ∈ ns) := by
  unfold hasInt
  rw [List.any_map, Bool.eq_iff_iff, List.any_eq_true]
  simp
theorem bad_num {many : Int} {ds : List PyData} {j : Nat} {d : PyData} (h : lotBad many ds j = false) (e : ds[j]? = some d) : isNumD many d = true := by
  cases q : isNumD many d with
  | true => rfl
  | false => rw [lotBad_no e q] at h; cases h
theorem cut_take {xs : List V} {i : Nat} (h : i ≤ xs.length) : cutV xs none (some (i : Int)) = xs.take i := by
  unfold cutV
  rw [HT.sIx_nat, HT.sIx_none, List.drop_zero, Nat.sub_zero, Nat.min_eq_left h]
section
variable {P : Program} {w : World} {K : PySem.W.Frag} {mg : Str → Option Value} {base : Heap}
abbrev sWrong : Stmt := top 13
theorem scWrong : FnScope ["numbers", "many", "seen", "index", "number"] ["numbers", "many"] (defScope sWrong) := ⟨rfl, rfl, rfl, by decide +kernel, rfl, by decide +kernel, by decide +kernel⟩
theorem ok_Wrong {f : Addr} {fd : FuncData} (F : Fun K "wrong_number" "wrong_number" sWrong f fd) (B : Bl mg) {fn : Addr} {fdn : FuncData} (Gn : FnOk P w K mg base CX0 2 fn fdn ["value", "many"] (spNum K)) (gn : mg "is_number" = some (.ref fn)) (kn : PySem.W.keepIn K (.ref fn) = true) (bn : Binds K fdn ["value", "many"] []) : FnOk P w K mg base CX0 3 f fd ["numbers", "many"] (spLot K) := by
  refine F.ok scWrong (fun vs H Q E h => ?_) (fun cdv A outer s H vs Q E hr h => ?_)
  · obtain ⟨v, d, many, rfl, _⟩ := h
    rfl
  · obtain ⟨v, d, many, rfl, h1, tm, k⟩ := h
    refine ⟨_, pss_cons (ps_if (pt_not (pt_val (pe_callB call_isi (by rfl) (B "isinstance" (by decide)) (by decide +kernel) (pa_cons (pv 0) (pa_cons (pe_bltn (v := .ty "list") rfl (B "list" (by decide)) (by decide +kernel) rfl) pa_nil))))) (pss_one (ps_ret (pe_un un_neg pe_int))) pss_nil)
      (pss_cons (ps_set (i := 2) scWrong.nd rfl (Or.inl rfl) (pe_callTy0 cr_set0 (by rfl) (B "set" (by decide)) (by decide +kernel)))
      (pss_cons (ps_for PassesOwn.never rfl (pi_enum (by rfl) (B "enumerate" (by decide)) (pa_cons (pv 0) pa_nil)) (pg_tup rfl (pgs_cons (pg_name (i := 3) scWrong.nd rfl (Or.inl rfl)) (pgs_cons (pg_name (i := 4) scWrong.nd rfl (Or.inl rfl)) pgs_nil))) (pss_cons (ps_if (PW.pt (pw_or (pt_not (pt_val (pe_call (E := E0) Gn (hr.mono (by decide)) rfl gn kn bn .nil pass0 (pa_cons (pv 4) (pa_cons (pv 1) pa_nil))))) (pw_or1 (pt_cmpR or_sin (pv 4) (pv 2) (by rfl))))) (pss_one (ps_ret (pv 3))) pss_nil)
      (pss_one (ps_expr (pe_sadd (pv 2) (pa_cons (pv 4) pa_nil))))))
      (pss_one (ps_ret pe_non)))), ?_⟩
    refine ⟨_, rfl, _, _, _, _, _, rfl, .ty "list", dp_ty h1, kit_d h1 "list" (by decide), _, rfl, ?_⟩
    cases e : isK d "list" with
    | false =>
      refine LK.ifT rfl ⟨1, rfl, ?_⟩
      have := k H (Same.refl H)
      rwa [lot_no e] at this
    | true =>
      obtain ⟨a, xs, ds, rfl, rfl, hs, hd⟩ := list_of h1 e
      have ln : ds.length ≤ 1000 := by
        rw [tame, Bool.and_eq_true] at tm
        exact of_decide_eq_true tm.1
      have xl := dps_len hd
      refine LK.ifF rfl ⟨rfl, fun S nS => ?_⟩
      refine ⟨_, rfl, a, xs, rfl, (same_new nS).seq hs, ?_⟩
      refine for_enum (xs := xs) (fun i σ H' => ∃ (o3 o4 : Option V) (n : Nat), σ = [some (.ref a), some (.int many), some (.ref S), o3, o4] ∧ H' S = some (SetO w S (hasInt (ds.take i)) n) ∧ n ≤ i ∧ (∀ k < i, lotBad many ds k = false) ∧ Same H H')
        ⟨_, _, 0, rfl, upd_same, Nat.le_refl _, fun k h => absurd h (Nat.not_lt_zero _), same_new nS⟩ (fun i σ H' h => h.choose_spec.choose_spec.choose_spec.2.2.2.2.seq hs) (fun i x T σ H' hx hI nT => ?_) (fun σ H' hI => ?_)
      · obtain ⟨o3, o4, n, rfl, hS, hn, hb, s1⟩ := hI
        obtain ⟨x', d, hx', hd', dx⟩ := dps_at hd (i := i) (by rw [← xl]; exact (List.getElem?_eq_some_iff.mp hx).1)
        obtain rfl : x = x' := by
          rw [hx] at hx'
          exact Option.some.inj hx'
        have s2 := same_new (o := .tup [.int (i : Nat), x]) nT
        have s3 : Same H _ := fun b o e => s2 b o (s1 b o e)
        have hS2 := s2 _ _ hS
        refine ⟨T, _, rfl, .inl (.inl upd_same), rfl, _, _, rfl, _, _, rfl, rfl, ?_⟩
        refine ⟨_, rfl, _, rfl, x, d, many, rfl, dp_same s3 dx, fun H2 s4 => ⟨_, rfl, ?_⟩⟩
        have s5 : Same H H2 := fun b o e => s4 b o (s3 b o e)
        have hS3 := s4 _ _ hS2
        have il : i < ds.length := by
          rw [← xl]
          exact (List.getElem?_eq_some_iff.mp hx).1
        cases e1 : isNumD many d with
        | false =>
          refine LK.ifT rfl (LK.ifT rfl ⟨_, rfl, ?_⟩)
          have := k H2 s5
          rwa [lotFault, find_at il hb (lotBad_no hd' e1)] at this
        | true =>
          obtain ⟨q, rfl, rfl⟩ := int_of dx (num_int e1)
          refine LK.ifF rfl ⟨_, rfl, _, rfl, q, S, _, n, rfl, rfl, hS3, _, rfl, ?_⟩
          cases e2 : hasInt (ds.take i) q with
          | true =>
            refine LK.ifT rfl ⟨_, rfl, ?_⟩
            have := k H2 s5
            rwa [lotFault, find_at il hb ((lotBad_int hd' e1).trans e2)] at this
          | false =>
            refine LK.ifF rfl ⟨_, rfl, ⟨S, _, n, rfl, hS3⟩, _, rfl, S, q, _, n, rfl, rfl, hS3, ?_, _, _, n + 1, rfl, ?_, ?_, ?_, ?_⟩
            · show n + 1 < 4096
              omega
            · rw [upd_same, hasInt_more hd', if_neg (by rw [e2]; decide)]
              rfl
            · omega
            · intro k' hk'
              by_cases ek : k' = i
              · subst ek
                exact (lotBad_int hd' e1).trans e2
              · exact hb k' (by omega)
            · intro b o eb
              rw [upd_ne (ne_of_none eb nS)]
              exact s5 b o eb
      · obtain ⟨o3, o4, n, rfl, hS, hn, hb, s1⟩ := hI
        have := k H' s1
        rw [lotFault, find_all (fun j hj => hb j (by omega))] at this
        exact this
end
end B7
namespace B7
open PySem PySem.Spec PyProof.Rows L2 LK RZ
/-- over zip of two tuples, the second not longer -/
theorem lc_zipT {K : PySem.W.Frag} {a b : Addr} {xs ys : List V} {g : TG} {tt : TT} {te : TE} {vs : List Nat} {σ : L2.St} {H1 : Hp} {D : Addr} {Qd : Hp → Prop} (hl : ys.length ≤ xs.length) (Pv : Nat → Hp → Prop) (h0 : Pv 0 (upd H1 D (.lst []))) (hq : ∀ i H, Pv i H → SqT K H a xs ∧ SqT K H b ys)
    (hs : ∀ i x y T H, xs[i]? = some x → ys[i]? = some y → Pv i H → H T = none → g (.ref T) (wipe σ vs) (upd H T (.tup [x, y])) fun σ2 H2 => wipe σ2 vs = wipe σ vs ∧ tt σ2 H2 fun b H3 =>
      if b = true then te σ2 H3 fun y H4 => ∃ acc, H4 D = some (.lst acc) ∧ acc.length < sizeLine ∧ Pv (i + 1) (upd H4 D (.lst (acc ++ [y]))) else Pv (i + 1) H3) (hd : ∀ H, Pv ys.length H → Qd H) :
    ∃ W : Nat → Nat → Hp → Prop, (∃ m, W 0 m (upd H1 D (.lst []))) ∧ ∀ i m H, W i m H →
      ((ItzT K a b).stop i H ∧ Qd H) ∨ ((ItzT K a b).go i H ∧ ∃ Nx : Hp → Prop, (∀ H', Nx H' → ∃ m', m' < m ∧ W (i + 1) m' H') ∧ ∀ v H', (ItzT K a b).yld i H v H' → g v (wipe σ vs) H' fun σ2 H2 => wipe σ2 vs = wipe σ vs ∧ tt σ2 H2 fun b H3 =>
        if b = true then te σ2 H3 fun y H4 => ∃ acc, H4 D = some (.lst acc) ∧ acc.length < sizeLine ∧ Nx (upd H4 D (.lst (acc ++ [y]))) else Nx H3) := by
  refine ⟨fun i m H => m = ys.length - i ∧ i ≤ ys.length ∧ Pv i H, ⟨ys.length, by simp, Nat.zero_le _, h0⟩, ?_⟩
  rintro i m H ⟨rfl, hi, p⟩
  obtain ⟨qx, qy⟩ := hq i H p
  by_cases hlt : i < ys.length
  · have hy : ys[i]? = some ys[i] := List.getElem?_eq_getElem hlt
    have hx : xs[i]? = some (xs[i]'(by omega)) := List.getElem?_eq_getElem (by omega)
    refine .inr ⟨⟨xs, ys, _, _, qx, qy, hx, hy⟩, Pv (i + 1), fun H' p' => ⟨ys.length - (i + 1), by omega, rfl, hlt, p'⟩, fun v H' y => ?_⟩
    obtain ⟨T, x', y', rfl, hT, rfl, f1, f2⟩ := y
    exact hs i x' y' T H (f1 xs qx) (f2 ys qy) p hT
  · have e : i = ys.length := by omega
    subst e
    exact .inl ⟨⟨xs, ys, qx, qy, Or.inr (Nat.le_refl _)⟩, hd H p⟩
def ltAt (ds : List PyData) (j : Nat) : Bool := match ds[j]?, ds[j + 1]? with
  | some (.int a), some (.int b) => decide (a < b)
  | _, _ => false
/-- each less than the next one -/
def rise (ds : List PyData) : Bool := (List.range (ds.length - 1)).all (ltAt ds)
def isParD (many : Int) : PyData → Bool
  | .tuple ds => ds.all (isNumD many) && rise ds
  | _ => false
def isLoopD (number : Int) : PyData → Bool
  | .tuple [a, b] => isThrD a && isParD number b
  | _ => false
def spPar (K : PySem.W.Frag) : Sp := fun vs H Q _ => ∃ (v : V) (d : PyData) (many : Int), vs = [v, .int many] ∧ Dp K H v d ∧ tame d = true ∧ ∀ H', Same H H' → Q (.bl (isParD many d)) H'
def spLoop (K : PySem.W.Frag) : Sp := fun vs H Q _ => ∃ (v : V) (d : PyData) (many : Int), vs = [v, .int many] ∧ Dp K H v d ∧ tame d = true ∧ d.canLay0 = true ∧ ∀ H', Same H H' → Q (.bl (isLoopD many d)) H'
theorem par_no {many : Int} {d : PyData} (e : isK d "tuple" = false) : isParD many d = false := by
  cases d <;> first | rfl | exact absurd (show isK (.tuple []) "tuple" = false from e) (by decide +kernel)
theorem loop_no {many : Int} {d : PyData} (e : isK d "tuple" = false) : isLoopD many d = false := by
  cases d <;> first | rfl | exact absurd (show isK (.tuple []) "tuple" = false from e) (by decide +kernel)
section
variable {P : Program} {w : World} {K : PySem.W.Frag} {mg : Str → Option Value} {base : Heap}
abbrev sPar : Stmt := top 28
theorem scPar : FnScope ["value", "many", "one", "other", "parent"] ["value", "many"] (defScope sPar) := ⟨rfl, rfl, rfl, by decide +kernel, rfl, by decide +kernel, by decide +kernel⟩
theorem ok_Par {f : Addr} {fd : FuncData} (F : Fun K "is_parents" "is_parents" sPar f fd) (B : Bl mg) {fn : Addr} {fdn : FuncData} (Gn : FnOk P w K mg base CX0 2 fn fdn ["value", "many"] (spNum K)) (gn : mg "is_number" = some (.ref fn)) (kn : PySem.W.keepIn K (.ref fn) = true) (bn : Binds K fdn ["value", "many"] []) : FnOk P w K mg base CX0 3 f fd ["value", "many"] (spPar K) := by
  refine F.ok scPar (fun vs H Q E h => ?_) (fun cdv A outer s H vs Q E hr h => ?_)
  · obtain ⟨v, d, many, rfl, _⟩ := h
    rfl
  · obtain ⟨v, d, many, rfl, h1, tm, k⟩ := h
    refine ⟨_, pss_cons (ps_if (pt_not (pt_val (pe_callB call_isi (by rfl) (B "isinstance" (by decide)) (by decide +kernel) (pa_cons (pv 0) (pa_cons (pe_bltn (v := .ty "tuple") rfl (B "tuple" (by decide)) (by decide +kernel) rfl) pa_nil))))) (pss_one (ps_ret pe_bl)) pss_nil)
      (pss_cons (ps_if (pt_not (pt_val (pe_callB (cr_all rfl) (by rfl) (B "all" (by decide)) (by decide +kernel) (pa_cons (pe_lc (own := [("parent", 4)]) (g := gName 4) (tt := tYes) rfl scPar.nd (pi_tup (pv 0)) (blkOk_by (N := ["value", "many", "one", "other", "parent"]) (sc := defScope sPar) (by decide +kernel)) (fun _ _ _ _ _ => pg_name (i := 4) scPar.nd rfl (Or.inl rfl)) (fun _ _ _ _ _ => pts_nil) (fun _ _ _ _ _ => pe_call (E := E0) Gn (hr.mono (by decide)) rfl gn kn bn .nil pass0 (pa_cons (pv 4) (pa_cons (pv 1) pa_nil)))) pa_nil)))) (pss_one (ps_ret pe_bl)) pss_nil)
      (pss_one (ps_ret (pe_callB (cr_all rfl) (by rfl) (B "all" (by decide)) (by decide +kernel) (pa_cons (pe_lc (own := [("one", 2), ("other", 3)]) (g := gTup K 2 (gCons (gName 2) (gCons (gName 3) gNil))) (tt := tYes) rfl scPar.nd (RZ.pi_zipA (by rfl) (B "zip" (by decide)) (pa_cons (pv 0) (pa_cons (pe_slice sl_tupA (pv 0) (po_some pe_int) po_none) pa_nil))) (blkOk_by (N := ["value", "many", "one", "other", "parent"]) (sc := defScope sPar) (by decide +kernel)) (fun _ _ _ _ _ => pg_tup rfl (pgs_cons (pg_name (i := 2) scPar.nd rfl (Or.inl rfl)) (pgs_cons (pg_name (i := 3) scPar.nd rfl (Or.inl rfl)) pgs_nil))) (fun _ _ _ _ _ => pts_nil) (fun _ _ _ _ _ => pe_cmpR op_lt (pv 2) (pv 3) (nomark _))) pa_nil))))), ?_⟩
    refine ⟨_, rfl, _, _, _, _, _, rfl, .ty "tuple", dp_ty h1, kit_d h1 "tuple" (by decide), _, rfl, ?_⟩
    cases e : isK d "tuple" with
    | false =>
      refine LK.ifT rfl ?_
      have := k H (Same.refl H)
      rwa [par_no e] at this
    | true =>
      obtain ⟨a, xs, ds, rfl, rfl, hs, hd⟩ := tup_of h1 e
      have ln : ds.length ≤ 1000 := by
        rw [tame, Bool.and_eq_true] at tm
        exact of_decide_eq_true tm.1
      have xl := dps_len hd
      refine LK.ifF rfl ⟨_, rfl, a, rfl, ⟨xs, hs⟩, fun D nD => ?_⟩
      refine lc_tup (K := K) (a := a) (xs := xs) (fun j H' => H' D = some (.lst (((ds.take j).map (isNumD many)).map V.bl)) ∧ Same H H') ⟨upd_same, same_new nD⟩ (fun i H' hi hh => same_tup hh.2 hs) (fun j x H' hx hh => ⟨rfl, ?_⟩) (fun H' hh => ?_)
      · obtain ⟨hD, s1⟩ := hh
        obtain ⟨x', d, hx', hd', dx⟩ := dps_at hd (i := j) (by rw [← xl]; exact (List.getElem?_eq_some_iff.mp hx).1)
        obtain rfl : x = x' := by
          rw [hx] at hx'
          exact Option.some.inj hx'
        refine ⟨_, rfl, _, rfl, x, d, many, rfl, dp_same s1 dx, fun H2 s4 => ⟨_, s4 _ _ hD, ?_, ?_, fun b o eb => ?_⟩⟩
        · rw [List.length_map, List.length_map, List.length_take]
          exact Nat.lt_of_lt_of_le (by omega : _ < 2000) (by decide)
        · rw [upd_same, List.take_succ, hd', List.map_append, List.map_append]
          rfl
        · rw [upd_ne (ne_of_none eb nD)]
          exact s4 b o (s1 b o eb)
      · obtain ⟨hD, s1⟩ := hh
        rw [xl, List.take_length] at hD
        refine ⟨D, _, rfl, SqL.of hD, _, rfl, ?_⟩
        rw [List.all_map]
        show (fun b H1 => if b = true then _ else _) (!(ds.all (isNumD many))) H'
        cases e1 : ds.all (isNumD many) with
        | false =>
          refine LK.ifT rfl ?_
          have := k H' s1
          rw [isParD, e1, Bool.false_and] at this
          exact this
        | true =>
          refine LK.ifF rfl ?_
          have s1' := s1
          obtain ⟨ns, n1, n2⟩ := nums_take (many := many) (k := ds.length) hd fun j hj d e => List.all_eq_true.mp e1 d (List.mem_of_getElem? e)
          rw [List.take_length] at n2
          rw [← xl, List.take_length] at n1
          subst n1
          subst n2
          refine ⟨_, rfl, _, rfl, 1, rfl, a, _, rfl, same_tup s1 hs, fun hw => ?_, fun hw p np => ?_⟩
          · have n0 : ns = [] := by
              have := hw.1
              rw [show HT.sIx (ns.map V.int).length 0 (some 1) = min 1 (ns.map V.int).length from HT.sIx_nat _ _ 1, List.length_map] at this
              exact List.length_eq_zero_iff.mp (by omega)
            have s2 := s1
            have hb : SqT K H' a ((ns.map V.int).drop 1) := by
              subst n0
              exact same_tup s1 hs
            refine ⟨a, a, _, _, rfl, .inr ⟨same_tup s2 hs, hb, fun D2 nD2 => ?_⟩⟩
            refine lc_zipT (K := K) (xs := ns.map V.int) (ys := (ns.map V.int).drop 1) (by rw [List.length_drop]; omega) (fun j H' => H' D2 = some (.lst (((List.range j).map (ltAt (ns.map PyData.int))).map V.bl)) ∧ Same H H' ∧ SqT K H' a ((ns.map V.int).drop 1)) ⟨upd_same, fun b o e => same_new nD2 b o (s2 b o e), same_tup (same_new nD2) hb⟩ (fun j H' hh => ⟨same_tup hh.2.1 hs, hh.2.2⟩) (fun j x y T H2 hx hy hh nT => ?_) (fun H2 hh => ?_)
            · obtain ⟨hD2, s3, hb3⟩ := hh
              rw [List.getElem?_drop, List.getElem?_map] at hy
              rw [List.getElem?_map] at hx
              obtain ⟨p1, q1, rfl⟩ := Option.map_eq_some_iff.mp hx
              obtain ⟨p2, q2, rfl⟩ := Option.map_eq_some_iff.mp hy
              rw [Nat.add_comm] at q2
              have s4 := same_new (o := .tup [.int p1, .int p2]) nT
              have jl : j < ns.length := (List.getElem?_eq_some_iff.mp q1).1
              have lt : ltAt (ns.map PyData.int) j = decide (p1 < p2) := by
                unfold ltAt
                rw [List.getElem?_map, List.getElem?_map, q1, q2]
                rfl
              have nl : ns.length ≤ 1000 := by
                rw [List.length_map] at ln
                exact ln
              have e2 := s4 _ _ hD2
              refine ⟨T, _, rfl, .inl (.inl upd_same), rfl, _, _, rfl, _, _, rfl, rfl, rfl, ?_⟩
              refine ⟨_, rfl, _, rfl, p1, p2, rfl, rfl, _, e2, ?_, ?_, fun b o eb => ?_, ?_⟩
              · rw [List.length_map, List.length_map, List.length_range]
                exact Nat.lt_of_lt_of_le (by omega : _ < 2000) (by decide)
              · rw [upd_same, List.range_succ, List.map_append, List.map_append]
                show _ = some (HO.lst (_ ++ [V.bl (ltAt (ns.map PyData.int) j)]))
                rw [lt]
              · by_cases eD : b = D2
                · subst eD
                  exact absurd (s2 _ _ eb) (by rw [nD2]; exact fun z => nomatch z)
                · rw [upd_ne eD]
                  exact s4 b o (s3 b o eb)
              · exact sqT_tk (Tk.own e2) (same_tup s4 hb3)
            · obtain ⟨hD2, s3, hb3⟩ := hh
              refine ⟨D2, _, rfl, SqL.of hD2, ?_⟩
              have := k H2 s3
              rw [isParD, e1, Bool.true_and, rise] at this
              rw [List.all_map]
              rw [List.length_map] at this
              rw [List.length_drop, List.length_map]
              exact this
          · have s2 : Same H (L2.upd H' p (.tup (cutV (ns.map V.int) (some 1) none))) := fun b o e => same_new (o := .tup (cutV (ns.map V.int) (some 1) none)) np b o (s1 b o e)
            have cd : cutV (ns.map V.int) (some 1) none = (ns.map V.int).drop 1 := by
              unfold cutV
              rw [show HT.sIx (ns.map V.int).length 0 (some 1) = min 1 (ns.map V.int).length from HT.sIx_nat _ _ 1, HT.sIx_none]
              cases ns with
              | nil => rfl
              | cons n r =>
                rw [show min 1 ((n :: r).map V.int).length = 1 by simp]
                exact List.take_of_length_le (by simp)
            have hb : SqT K (L2.upd H' p (.tup (cutV (ns.map V.int) (some 1) none))) p ((ns.map V.int).drop 1) := by
              refine .inl (.inl ?_)
              rw [upd_same, cd]
            refine ⟨a, p, _, _, rfl, .inr ⟨same_tup s2 hs, hb, fun D2 nD2 => ?_⟩⟩
            refine lc_zipT (K := K) (xs := ns.map V.int) (ys := (ns.map V.int).drop 1) (by rw [List.length_drop]; omega) (fun j H' => H' D2 = some (.lst (((List.range j).map (ltAt (ns.map PyData.int))).map V.bl)) ∧ Same H H' ∧ SqT K H' p ((ns.map V.int).drop 1)) ⟨upd_same, fun b o e => same_new nD2 b o (s2 b o e), same_tup (same_new nD2) hb⟩ (fun j H' hh => ⟨same_tup hh.2.1 hs, hh.2.2⟩) (fun j x y T H2 hx hy hh nT => ?_) (fun H2 hh => ?_)
            · obtain ⟨hD2, s3, hb3⟩ := hh
              rw [List.getElem?_drop, List.getElem?_map] at hy
              rw [List.getElem?_map] at hx
              obtain ⟨p1, q1, rfl⟩ := Option.map_eq_some_iff.mp hx
              obtain ⟨p2, q2, rfl⟩ := Option.map_eq_some_iff.mp hy
              rw [Nat.add_comm] at q2
              have s4 := same_new (o := .tup [.int p1, .int p2]) nT
              have jl : j < ns.length := (List.getElem?_eq_some_iff.mp q1).1
              have lt : ltAt (ns.map PyData.int) j = decide (p1 < p2) := by
                unfold ltAt
                rw [List.getElem?_map, List.getElem?_map, q1, q2]
                rfl
              have nl : ns.length ≤ 1000 := by
                rw [List.length_map] at ln
                exact ln
              have e2 := s4 _ _ hD2
              refine ⟨T, _, rfl, .inl (.inl upd_same), rfl, _, _, rfl, _, _, rfl, rfl, rfl, ?_⟩
              refine ⟨_, rfl, _, rfl, p1, p2, rfl, rfl, _, e2, ?_, ?_, fun b o eb => ?_, ?_⟩
              · rw [List.length_map, List.length_map, List.length_range]
                exact Nat.lt_of_lt_of_le (by omega : _ < 2000) (by decide)
              · rw [upd_same, List.range_succ, List.map_append, List.map_append]
                show _ = some (HO.lst (_ ++ [V.bl (ltAt (ns.map PyData.int) j)]))
                rw [lt]
              · by_cases eD : b = D2
                · subst eD
                  exact absurd (s2 _ _ eb) (by rw [nD2]; exact fun z => nomatch z)
                · rw [upd_ne eD]
                  exact s4 b o (s3 b o eb)
              · exact sqT_tk (Tk.own e2) (same_tup s4 hb3)
            · obtain ⟨hD2, s3, hb3⟩ := hh
              refine ⟨D2, _, rfl, SqL.of hD2, ?_⟩
              have := k H2 s3
              rw [isParD, e1, Bool.true_and, rise] at this
              rw [List.all_map]
              rw [List.length_map] at this
              rw [List.length_drop, List.length_map]
              exact this
end
end B7
namespace B7
open PySem PySem.Spec PyProof.Rows L2 LK RZ
theorem lay_mem : ∀ {ds : List PyData} {d : PyData}, PyData.canLayAll0 ds = true → d ∈ ds → d.canLay0 = true
  | x :: r, d, h, e => by
    rw [PyData.canLayAll0, Bool.and_eq_true] at h
    rcases List.mem_cons.mp e with rfl | e
    · exact h.1
    · exact lay_mem h.2 e
theorem loop_two {number : Int} {ds : List PyData} (h : ds.length ≠ 2) : isLoopD number (.tuple ds) = false := by
  match ds, h with
  | [], _ => rfl
  | [_], _ => rfl
  | [_, _], h => exact absurd rfl h
  | _ :: _ :: _ :: _, _ => rfl
theorem dps_two {K : PySem.W.Frag} {H : Hp} {xs : List V} {ds : List PyData} (h : DpAll K H xs ds) (l : ds.length = 2) : ∃ x y d e, xs = [x, y] ∧ ds = [d, e] ∧ Dp K H x d ∧ Dp K H y e := by
  cases h with
  | nil => cases l
  | cons a r =>
    cases r with
    | nil => cases l
    | cons b r =>
      cases r with
      | nil => exact ⟨_, _, _, _, rfl, rfl, a, b⟩
      | cons _ _ => simp at l
section
variable {P : Program} {w : World} {K : PySem.W.Frag} {mg : Str → Option Value} {base : Heap}
abbrev sIsLoop : Stmt := top 29
theorem scIsLoop : FnScope ["value", "number", "thread", "parents"] ["value", "number"] (defScope sIsLoop) := ⟨rfl, rfl, rfl, by decide +kernel, rfl, by decide +kernel, by decide +kernel⟩
theorem ok_IsLoop {f : Addr} {fd : FuncData} (F : Fun K "is_loop" "is_loop" sIsLoop f fd) (B : Bl mg) {ft : Addr} {fdt : FuncData} (Gt : FnOk P w K mg base CX0 1 ft fdt ["value"] (spThr K)) (gt : mg "is_thread" = some (.ref ft)) (kt : PySem.W.keepIn K (.ref ft) = true) (bt : Binds K fdt ["value"] []) {fp : Addr} {fdp : FuncData} (Gp : FnOk P w K mg base CX0 3 fp fdp ["value", "many"] (spPar K)) (gp : mg "is_parents" = some (.ref fp)) (kp : PySem.W.keepIn K (.ref fp) = true) (bp : Binds K fdp ["value", "many"] []) : FnOk P w K mg base CX0 4 f fd ["value", "number"] (spLoop K) := by
  refine F.ok scIsLoop (fun vs H Q E h => ?_) (fun cdv A outer s H vs Q E hr h => ?_)
  · obtain ⟨v, d, many, rfl, _⟩ := h
    rfl
  · obtain ⟨v, d, many, rfl, h1, tm, lay, k⟩ := h
    refine ⟨_, pss_cons (ps_if (PW.pt (pw_or (pt_not (pt_val (pe_callB call_isi (by rfl) (B "isinstance" (by decide)) (by decide +kernel) (pa_cons (pv 0) (pa_cons (pe_bltn (v := .ty "tuple") rfl (B "tuple" (by decide)) (by decide +kernel) rfl) pa_nil))))) (pw_or1 (pt_cmpR op_ne (pe_callB call_len_seq (by rfl) (B "len" (by decide)) (by decide +kernel) (pa_cons (pv 0) pa_nil)) pe_int (nomark _))))) (pss_one (ps_ret pe_bl)) pss_nil)
      (pss_cons (ps_asg (pv 0) (pg_tup rfl (pgs_cons (pg_name (i := 2) scIsLoop.nd rfl (Or.inl rfl)) (pgs_cons (pg_name (i := 3) scIsLoop.nd rfl (Or.inl rfl)) pgs_nil))))
      (pss_one (ps_ret (pe_and (pe_call (E := E0) Gt (hr.mono (by decide)) rfl gt kt bt .nil pass0 (pa_cons (pv 2) pa_nil)) (pe_one (pe_call (E := E0) Gp (hr.mono (by decide)) rfl gp kp bp .nil pass0 (pa_cons (pv 3) (pa_cons (pv 1) pa_nil)))))))), ?_⟩
    refine ⟨_, rfl, _, _, _, _, _, rfl, .ty "tuple", dp_ty h1, kit_d h1 "tuple" (by decide), _, rfl, ?_⟩
    have kk := k H (Same.refl H)
    cases e : isK d "tuple" with
    | false =>
      refine LK.ifT rfl (LK.ifT rfl ?_)
      rwa [loop_no e] at kk
    | true =>
      obtain ⟨a, xs, ds, rfl, rfl, hs, hd⟩ := tup_of h1 e
      rw [tame, Bool.and_eq_true] at tm
      have xl := dps_len hd
      have lay' : PyData.canLayAll0 ds = true := by simpa only [PyData.canLay0] using lay
      refine LK.ifF rfl ⟨_, rfl, a, xs, rfl, .inr hs, rfl, _, rfl, ?_⟩
      by_cases l2 : ds.length = 2
      · refine LK.ifF ?_ ?_
        · rw [xl, l2]
          decide
        obtain ⟨x, y, d1, d2, rfl, rfl, hx, hy⟩ := dps_two hd l2
        refine ⟨_, rfl, a, _, rfl, hs, rfl, _, _, rfl, _, _, rfl, rfl, ?_⟩
        have m1 : d1 ∈ [d1, d2] := by simp
        have m2 : d2 ∈ [d1, d2] := by simp
        refine ⟨_, rfl, x, d1, rfl, hx, tame_mem tm.2 m1, lay_mem lay' m1, fun H1 s1 => ⟨_, rfl, ?_⟩⟩
        cases e1 : isThrD d1 with
        | false =>
          refine LK.ifF rfl ?_
          have := k H1 s1
          rwa [isLoopD, e1, Bool.false_and] at this
        | true =>
          refine LK.ifT rfl ⟨_, rfl, _, rfl, y, d2, many, rfl, dp_same s1 hy, tame_mem tm.2 m2, fun H2 s2 => ?_⟩
          have := k H2 (fun b o e => s2 b o (s1 b o e))
          rwa [isLoopD, e1, Bool.true_and] at this
      · refine LK.ifT ?_ ?_
        · rw [xl]
          have : ¬ V.int (ds.length : Nat) = V.int 2 := fun z => by
            have := V.int.inj z
            omega
          simp [this]
        · rwa [loop_two l2] at kk
end
end B7
namespace B7
open PySem PySem.Spec PyProof.Rows L2 LK RZ
def loopBad (ds : List PyData) (k : Nat) : Bool := match ds[k]? with
  | some d => !isLoopD k d
  | none => false
def loopsFault : PyData → Option Int
  | .list ds => ((List.range ds.length).find? (loopBad ds)).map fun k : Nat => (k : Int)
  | _ => some (-1)
def spLoops (K : PySem.W.Frag) : Sp := fun vs H Q _ => ∃ (v : V) (d : PyData), vs = [v] ∧ Dp K H v d ∧ tame d = true ∧ d.canLay0 = true ∧ d.depth ≤ 50 ∧ ∀ H', Same H H' → Q (optV (loopsFault d)) H'
theorem loops_no {d : PyData} (e : isK d "list" = false) : loopsFault d = some (-1) := by
  cases d <;> first | rfl | exact absurd (show isK (.list []) "list" = false from e) (by decide +kernel)
theorem loopBad_at {ds : List PyData} {k : Nat} {d : PyData} (e : ds[k]? = some d) : loopBad ds k = !isLoopD k d := by
  unfold loopBad
  rw [e]
theorem thr_str {d : PyData} (h : isThrD d = true) : ∃ z, d = .str z := by
  cases d <;> first | exact ⟨_, rfl⟩ | exact absurd h (by simp [isThrD])
theorem depth_mem : ∀ {ds : List PyData} {d : PyData}, d ∈ ds → d.depth ≤ PyData.depthAll ds
  | x :: r, d, e => by
    simp only [PyData.depthAll]
    rcases List.mem_cons.mp e with rfl | e
    · omega
    · have := depth_mem e
      omega
theorem lay_filter (f : PyData → Bool) : ∀ {ds : List PyData}, PyData.canLayAll0 ds = true → PyData.canLayAll0 (ds.filter f) = true ∧ PyData.depthAll (ds.filter f) ≤ PyData.depthAll ds
  | [], _ => ⟨rfl, Nat.le_refl _⟩
  | x :: r, h => by
    rw [PyData.canLayAll0, Bool.and_eq_true] at h
    obtain ⟨a, b⟩ := lay_filter f h.2
    rw [List.filter_cons]
    split
    · constructor
      · rw [PyData.canLayAll0, h.1, a]
        rfl
      · simp only [PyData.depthAll]
        omega
    · refine ⟨a, ?_⟩
      simp only [PyData.depthAll]
      omega
theorem eqv_nilg (es : List PyData) : PyData.eqv (.list es) (.list []) = es.isEmpty := by
  cases es with
  | nil => rfl
  | cons y r => rfl
section
variable {P : Program} {w : World} {K : PySem.W.Frag} {mg : Str → Option Value} {base : Heap}
end
end B7
namespace B7
open PySem PySem.Spec PyProof.Rows L2 LK RZ
/-- what Cloth of d and e raises: the error's short name, its value -/
def dueD (d e : PyData) : Option (Str × Int) := match loopsFault d with
  | some i => some ("loops", i)
  | none => match d with
    | .list ds => (lotFault ds.length e).map fun i => (("fast" : Str), i)
    | _ => none
def spDue (K : PySem.W.Frag) : Sp := fun vs H Q _ => ∃ (v u : V) (d e : PyData), vs = [v, u] ∧ Dp K H v d ∧ Dp K H u e ∧ tame d = true ∧ d.canLay0 = true ∧ d.depth ≤ 50 ∧ tame e = true ∧
  (∀ H', Same H H' → dueD d e = none → Q .non H') ∧ ∀ H' p nm i, H p = none → Same H H' → H' p = some (.tup [.str nm, .int i]) → dueD d e = some (nm, i) → Q (.ref p) H'
theorem loops_none {d : PyData} (h : loopsFault d = none) : ∃ ds, d = .list ds := by
  cases d <;> first | exact ⟨_, rfl⟩ | exact absurd h (by simp [loopsFault])
section
variable {P : Program} {w : World} {K : PySem.W.Frag} {mg : Str → Option Value} {base : Heap}
end
end B7
namespace B7
open PySem PySem.Spec PyProof.Rows L2 L2H LK RZ MXb MXd MXe MXf
theorem _root_.L2.Fun.okC {P : Program} {w : World} {K : PySem.W.Frag} {mg : Str → Option Value} {base : Heap} {CX : CXT} {x qual : Str} {st : Stmt} {f : Addr} {fd : FuncData} {N ps : List Str} {k : Nat} {sp : Sp} (F : Fun K x qual st f fd) (S : FnScope N ps (defScope st))
    (len : ∀ vs H Q E, sp vs H Q E → vs.length = ps.length)
    (body : ∀ (cdv : Value) (A : Around) (outer : List Env) (s : Shared) (H : Hp) (vs : List V) (Q : VK) (E : XK), Room k (A.deeper (envOfC qual (defScope st) s.heap.objs.size f cdv)) → sp vs H Q E →
      ∃ t, PSs (cxOf CX P w K mg base N qual (defScope st) f cdv A outer s H E) (defBody st) t ∧ t { nx := fun _ H' => Q .non H', rt := Q } (start N vs) H) : FnOk P w K mg base CX (k + 1) f fd ps sp := by
  obtain ⟨oc, od, kV, doc, pm, an, cdv, ct, osl, rfl, lk, hcd⟩ := F.ex
  exact fn_of lk hcd S len fun A outer s H vs Q E room q => body cdv A outer s H vs Q E room q
abbrev sInit : Stmt := inClass (top 2) 0
/-- the error of class C, its value y, leaves -/
def Out (C : Addr) (H : Hp) (E : XK) (y : V) : Prop := ∀ (d : Addr) (H' : Hp), H d = none → Same H H' → H' d = some (.xd [("value", y)]) → E (.ref C) (some d) H'
def spChkF (K : PySem.W.Frag) (CF : Addr) : Sp := fun vs H Q E => ∃ (v : V) (d : PyData) (many : Int), vs = [v, .int many] ∧ Dp K H v d ∧ tame d = true ∧ (lotFault many d = none → ∀ H', Same H H' → Q .non H') ∧ ∀ i, lotFault many d = some i → Out CF H E (.int i)
def spChkL (K : PySem.W.Frag) (CL : Addr) : Sp := fun vs H Q E => ∃ (v : V) (d : PyData), vs = [v] ∧ Dp K H v d ∧ tame d = true ∧ d.canLay0 = true ∧ (loopsFault d = none → ∀ H', Same H H' → Q .non H') ∧ ∀ i, loopsFault d = some i → Out CL H E (.int i)
structure Ini (P : Program) (w : World) (K : PySem.W.Frag) (mg : Str → Option Value) (base : Heap) (fI : Addr) (fdI : FuncData) : Prop where
  ok : FnOk P w K mg base CX0 1 fI fdI ["self", "value"] (spInit K "value")
  bd : Bind1 K fdI "value"
section
variable {P : Program} {w : World} {K : PySem.W.Frag} {mg : Str → Option Value} {base : Heap} {fI CF CL : Addr} {fdI : FuncData}
theorem Out.go {C : Addr} {H H1 : Hp} {E : XK} {y : V} (o : Out C H E y) (s : Same H H1) : ∀ d, H1 d = none → E (.ref C) (some d) (upd H1 d (.xd [("value", y)])) := fun d nd => by
  refine o d _ ?_ (fun b u e => same_new nd b u (s b u e)) upd_same
  cases e : H d with
  | none => rfl
  | some u => rw [s _ _ e] at nd; cases nd
theorem scI : FnScope ["self", "value"] ["self", "value"] (defScope sInit) := ⟨rfl, rfl, rfl, by decide +kernel, rfl, by decide +kernel, by decide +kernel⟩
theorem ok_init {f : Addr} {fd : FuncData} (F : Fun K "__init__" "RunError.__init__" sInit f fd) : FnOk P w K mg base CX0 1 f fd ["self", "value"] (spInit K "value") := by
  refine F.ok scI (fun vs H Q E h => ?_) (fun cdv A outer s H vs Q E hr h => ?_)
  · obtain ⟨e, C, y, rfl, _⟩ := h
    rfl
  · obtain ⟨e, C, y, rfl, T, no, he, k⟩ := h
    exact ⟨_, pss_one (ps_ost (pv 0) (pv 1)), ⟨_, rfl, _, rfl, e, C, rfl, T, no, .inl ⟨he, k⟩⟩⟩
abbrev sChkF : Stmt := top 31
theorem scChkF : FnScope ["fast", "many", "index"] ["fast", "many"] (defScope sChkF) := ⟨rfl, rfl, rfl, by decide +kernel, rfl, by decide +kernel, by decide +kernel⟩
theorem ok_ChkF {f : Addr} {fd : FuncData} (F : Fun K "check_fast" "check_fast" sChkF f fd) (B : Bl mg) {fo : Addr} {fdo : FuncData} (Go : FnOk P w K mg base CX0 3 fo fdo ["numbers", "many"] (spLot K)) (go : mg "wrong_number" = some (.ref fo)) (ko : PySem.W.keepIn K (.ref fo) = true) (bo : Binds K fdo ["numbers", "many"] []) (I : Ini P w K mg base fI fdI) (TF : XC K mg fI CF "InvalidFast" "value") : FnOk P w K mg base (L2N.CX P w) 4 f fd ["fast", "many"] (spChkF K CF) := by
  refine F.okC scChkF (fun vs H Q E h => ?_) (fun cdv A outer s H vs Q E hr h => ?_)
  · obtain ⟨v, d, many, rfl, _⟩ := h
    rfl
  · obtain ⟨v, d, many, rfl, h1, tm, k1, k2⟩ := h
    refine ⟨_, pss_cons (ps_set (i := 2) scChkF.nd rfl (Or.inl rfl) (pe_call (E := E0) Go (hr.mono (by decide)) rfl go ko bo .nil pass0 (pa_cons (pv 0) (pa_cons (pv 1) pa_nil))))
      (pss_one (ps_if (pt_cmpR op_notN (pv 2) pe_non (nomark _)) (pss_one (L2N.ps_raise rfl (L2N.takes_of rfl rfl rfl rfl) (pmk1 TF I.ok I.bd (hr.mono (by decide)) rfl (pv 2)))) pss_nil)), ?_⟩
    refine ⟨_, rfl, _, rfl, v, d, many, rfl, h1, tm, fun H1 s1 => ?_⟩
    cases e1 : lotFault many d with
    | none => exact ⟨_, rfl, rfl, _, rfl, LK.ifF (show (!decide (V.non = V.non)) = false by simp) (k1 e1 H1 s1)⟩
    | some i =>
      refine ⟨_, rfl, rfl, _, rfl, LK.ifT (show (!decide (V.int i = V.non)) = true by simp) ?_⟩
      exact ⟨_, rfl, (k2 i e1).go s1⟩
abbrev sChkL : Stmt := top 30
theorem scChkL : FnScope ["loops", "number", "loop"] ["loops"] (defScope sChkL) := ⟨rfl, rfl, rfl, by decide +kernel, rfl, by decide +kernel, by decide +kernel⟩
theorem ok_ChkL {f : Addr} {fd : FuncData} (F : Fun K "check_loops" "check_loops" sChkL f fd) (B : Bl mg) {fo : Addr} {fdo : FuncData} (Go : FnOk P w K mg base CX0 4 fo fdo ["value", "number"] (spLoop K)) (go : mg "is_loop" = some (.ref fo)) (ko : PySem.W.keepIn K (.ref fo) = true) (bo : Binds K fdo ["value", "number"] []) (I : Ini P w K mg base fI fdI) (TL : XC K mg fI CL "InvalidLoops" "value") : FnOk P w K mg base (L2N.CX P w) 5 f fd ["loops"] (spChkL K CL) := by
  refine F.okC scChkL (fun vs H Q E h => ?_) (fun cdv A outer s H vs Q E hr h => ?_)
  · obtain ⟨v, d, rfl, _⟩ := h
    rfl
  · obtain ⟨v, d, rfl, h1, tm, lay, k1, k2⟩ := h
    refine ⟨_, pss_cons (ps_if (pt_not (pt_val (pe_callB call_isi (by rfl) (B "isinstance" (by decide)) (by decide +kernel) (pa_cons (pv 0) (pa_cons (pe_bltn (v := .ty "list") rfl (B "list" (by decide)) (by decide +kernel) rfl) pa_nil))))) (pss_one (L2N.ps_raise rfl (L2N.takes_of rfl rfl rfl rfl) (pmk1 TL I.ok I.bd (hr.mono (by decide)) rfl (pe_un un_neg pe_int)))) pss_nil)
      (pss_one (ps_for (passes_of rfl) rfl (pi_enum (by rfl) (B "enumerate" (by decide)) (pa_cons (pv 0) pa_nil)) (pg_tup rfl (pgs_cons (pg_name (i := 1) scChkL.nd rfl (Or.inl rfl)) (pgs_cons (pg_name (i := 2) scChkL.nd rfl (Or.inl rfl)) pgs_nil))) (pss_one (ps_if (pt_not (pt_val (pe_call (E := E0) Go (hr.mono (by decide)) rfl go ko bo .nil pass0 (pa_cons (pv 2) (pa_cons (pv 1) pa_nil))))) (pss_one (L2N.ps_raise rfl (L2N.takes_of rfl rfl rfl rfl) (pmk1 TL I.ok I.bd (hr.mono (by decide)) rfl (pv 1)))) pss_nil)))), ?_⟩
    refine ⟨_, rfl, _, _, _, _, _, rfl, .ty "list", dp_ty h1, kit_d h1 "list" (by decide), _, rfl, ?_⟩
    cases e : isK d "list" with
    | false =>
      refine LK.ifT rfl ⟨1, rfl, (k2 _ (loops_no e)).go (Same.refl H)⟩
    | true =>
      obtain ⟨a, xs, ds, rfl, rfl, hs, hd⟩ := list_of h1 e
      rw [tame, Bool.and_eq_true] at tm
      have lay' : PyData.canLayAll0 ds = true := by simpa only [PyData.canLay0] using lay
      have xl := dps_len hd
      refine LK.ifF rfl ⟨_, rfl, a, xs, rfl, hs, ?_⟩
      refine for_enum (xs := xs) (fun i σ H' => ∃ (o1 o2 : Option V), σ = [some (.ref a), o1, o2] ∧ (∀ k < i, loopBad ds k = false) ∧ Same H H')
        ⟨_, _, rfl, fun k h => absurd h (Nat.not_lt_zero _), Same.refl H⟩ (fun i σ H' h => h.choose_spec.choose_spec.2.2.seq hs) (fun i x T σ H' hx hI nT => ?_) (fun σ H' hI => ?_)
      · obtain ⟨o1, o2, rfl, hb, s1⟩ := hI
        obtain ⟨x', d, hx', hd', dx⟩ := dps_at hd (i := i) (by rw [← xl]; exact (List.getElem?_eq_some_iff.mp hx).1)
        obtain rfl : x = x' := by
          rw [hx] at hx'
          exact Option.some.inj hx'
        have il : i < ds.length := by
          rw [← xl]
          exact (List.getElem?_eq_some_iff.mp hx).1
        have dm : d ∈ ds := List.mem_of_getElem? hd'
        have s3 : Same H _ := fun b o e => same_new (o := .tup [.int (i : Nat), x]) nT b o (s1 b o e)
        refine ⟨T, _, rfl, .inl (.inl upd_same), rfl, _, _, rfl, _, _, rfl, rfl, ?_⟩
        refine ⟨_, rfl, _, rfl, x, d, (i : Int), rfl, dp_same s3 dx, tame_mem tm.2 dm, lay_mem lay' dm, fun H2 s4 => ⟨_, rfl, ?_⟩⟩
        have s5 : Same H H2 := fun b o e => s4 b o (s3 b o e)
        cases e1 : isLoopD i d with
        | false =>
          refine LK.ifT rfl ⟨_, rfl, (k2 (i : Int) ?_).go s5⟩
          rw [loopsFault, find_at il hb (by rw [loopBad_at hd', e1]; rfl)]
          rfl
        | true =>
          refine LK.ifF rfl ⟨_, _, rfl, fun k' hk' => ?_, s5⟩
          by_cases ek : k' = i
          · subst ek
            rw [loopBad_at hd', e1]
            rfl
          · exact hb k' (by omega)
      · obtain ⟨o1, o2, rfl, hb, s1⟩ := hI
        refine k1 ?_ H' s1
        rw [loopsFault, find_all (fun j hj => hb j (by omega))]
        rfl
end
end B7
namespace B7
open PySem PySem.Spec PyProof.Rows L2 L2H LK RZ MXb MXd MXe MXf
abbrev sClo : Stmt := inClass (top 33) 0
/-- all but p stays -/
def But (p : Addr) (H H' : Hp) : Prop := ∀ b o, b ≠ p → H b = some o → H' b = some o
/-- __init__ at x: what it raises, or the loops of its own and the sorted fast ones -/
def spClo (K : PySem.W.Frag) (CC CF CL : Addr) : Sp := fun vs H Q E => ∃ (x dx : Addr) (u v : V) (d e : PyData), vs = [.ref x, u, v] ∧ H x = some (.ins CC dx []) ∧ Cls K CC ∧ NoAttr K CC "_loops" ∧ NoAttr K CC "_fast" ∧ Dp K H u d ∧ Dp K H v e ∧ tame d = true ∧ d.canLay0 = true ∧ tame e = true ∧
  (∀ i, dueD d e = some (("loops" : Str), i) → Out CL H E (.int i)) ∧ (∀ i, dueD d e = some (("fast" : Str), i) → Out CF H E (.int i)) ∧
  ∀ (ds : List PyData) (ns ms : List Int) (L G : Addr) (H' : Hp) (xs : List V), dueD d e = none → d = .list ds → e = .list (ns.map PyData.int) → ms.Perm ns → ms.Pairwise (· ≤ ·) → H L = none → H G = none → L ≠ G → H' x = some (.ins CC dx [("_loops", .ref L), ("_fast", .ref G)]) → H' L = some (.lst xs) → DpAll K H xs ds → H' G = some (.lst (ms.map V.int)) → But x H H' → Q .non H'
theorem sql_but {K : PySem.W.Frag} {H H' : Hp} {x a C dx : Addr} {fs : List (Str × V)} {xs : List V} (hx : H x = some (.ins C dx fs)) (s : But x H H') (h : SqL K H a xs) : SqL K H' a xs := by
  rcases h with (h | ⟨o, h⟩) | h
  · exact .inl (.inl (s _ _ (ne_of h hx (by intro q; cases q)) h))
  · exact .inl (.inr ⟨o, s _ _ (ne_of h hx (by intro q; cases q)) h⟩)
  · exact .inr h
theorem But.of {x : Addr} {H H' : Hp} (s : Same H H') : But x H H' := fun b o _ e => s b o e
theorem But.trans {x : Addr} {H H1 H2 : Hp} (a : But x H H1) (b : But x H1 H2) : But x H H2 := fun c o n e => b c o n (a c o n e)
theorem But.put {x : Addr} {H : Hp} {o : HO} : But x H (L2.upd H x o) := fun b u n e => by
  rw [upd_ne n]
  exact e
theorem Out.more {C : Addr} {H H1 : Hp} {E : XK} {y : V} (o : Out C H E y) (s : Same H H1) : Out C H1 E y := fun d H' nd s' e => by
  refine o d H' ?_ (fun b u q => s' b u (s b u q)) e
  cases q : H d with
  | none => rfl
  | some u => rw [s _ _ q] at nd; cases nd
theorem lot_none {many : Int} {e : PyData} (h : lotFault many e = none) : ∃ es, e = .list es ∧ ∀ j < es.length, lotBad many es j = false := by
  cases e with
  | list es =>
    refine ⟨es, rfl, fun j hj => ?_⟩
    rw [lotFault] at h
    have h' : (List.range es.length).find? (lotBad many es) = none := by
      cases q : (List.range es.length).find? (lotBad many es) with
      | none => rfl
      | some k => rw [q] at h; cases h
    have := List.find?_eq_none.mp h' j (List.mem_range.mpr hj)
    simpa using this
  | _ => exact absurd h (by simp [lotFault])
section
variable {P : Program} {w : World} {K : PySem.W.Frag} {mg : Str → Option Value} {base : Heap} {CC CF CL : Addr}
theorem scClo : FnScope ["self", "loops", "fast"] ["self", "loops", "fast"] (defScope sClo) := ⟨rfl, rfl, rfl, by decide +kernel, rfl, by decide +kernel, by decide +kernel⟩
theorem ok_Clo {f fA fB : Addr} {fd fdA fdB : FuncData} (F : Fun K "__init__" "Cloth.__init__" sClo f fd) (B : Bl mg)
    (GA : FnOk P w K mg base (L2N.CX P w) 5 fA fdA ["loops"] (spChkL K CL)) (gA : mg "check_loops" = some (.ref fA)) (kA : PySem.W.keepIn K (.ref fA) = true) (bA : Binds K fdA ["loops"] [])
    (GB : FnOk P w K mg base (L2N.CX P w) 4 fB fdB ["fast", "many"] (spChkF K CF)) (gB : mg "check_fast" = some (.ref fB)) (kB : PySem.W.keepIn K (.ref fB) = true) (bB : Binds K fdB ["fast", "many"] []) :
    FnOk P w K mg base (L2N.CX P w) 6 f fd ["self", "loops", "fast"] (spClo K CC CF CL) := by
  refine F.okC scClo (fun vs H Q E h => ?_) (fun cdv A outer s H vs Q E hr h => ?_)
  · obtain ⟨x, dx, u, v, d, e, rfl, _⟩ := h
    rfl
  · obtain ⟨x, dx, u, v, d, e, rfl, hx, hc, nl, nf, hd, he, tm, lay, tme, k1, k2, k3⟩ := h
    refine ⟨_, pss_cons (ps_expr (pe_call (E := E) GA (hr.mono (by decide)) rfl gA kA bA .nil (L2N.passes_call (L2N.takes_of rfl rfl rfl rfl) (fun _ _ _ _ z => z)) (pa_cons (pv 1) pa_nil)))
      (pss_cons (ps_expr (pe_call (E := E) GB (hr.mono (by decide)) rfl gB kB bB .nil (L2N.passes_call (L2N.takes_of rfl rfl rfl rfl) (fun _ _ _ _ z => z)) (pa_cons (pv 2) (pa_cons (pe_callB call_len_seq (by rfl) (B "len" (by decide)) (by decide +kernel) (pa_cons (pv 1) pa_nil)) pa_nil))))
      (pss_cons (ps_fld (pv 0) (pe_callTy call_list_of (by rfl) (B "list" (by decide)) (by decide +kernel) (pa_cons (pv 1) pa_nil)) rfl)
      (pss_one (ps_fld (pv 0) (pe_callB L2.cr_sortedI (by rfl) (B "sorted" (by decide)) (by decide +kernel) (pa_cons (pv 2) pa_nil)) rfl)))), ?_⟩
    refine ⟨_, rfl, u, d, rfl, hd, tm, lay, fun e1 H1 s1 => ?_, fun i e1 => k1 i (by unfold dueD; rw [e1])⟩
    obtain ⟨ds, rfl⟩ := loops_none e1
    obtain ⟨a, xs, ds', rfl, e', hs, hds⟩ := list_of hd rfl
    cases e'
    have xl := dps_len hds
    have du : dueD (.list ds) e = (lotFault ds.length e).map fun i => (("fast" : Str), i) := by
      unfold dueD
      rw [e1]
    refine ⟨_, rfl, _, rfl, a, xs, rfl, .inl (s1.seq hs), v, e, _, rfl, dp_same s1 he, tme, fun e2 H2 s2 => ?_, fun i e2 => ?_⟩
    · rw [xl] at e2
      rw [e2] at du
      have s3 : Same H H2 := fun b o q => s2 b o (s1 b o q)
      obtain ⟨es, rfl, hb⟩ := lot_none e2
      obtain ⟨b, ys, es', rfl, e', hys, hes⟩ := list_of he rfl
      cases e'
      obtain ⟨ns, n1, n2⟩ := nums_take (many := ds.length) (k := es.length) hes fun j hj d q => bad_num (hb j hj) q
      rw [List.take_length] at n2
      rw [← dps_len hes, List.take_length] at n1
      subst n1
      subst n2
      refine ⟨_, rfl, a, xs, rfl, .inl (s3.seq hs), fun L nL => ?_⟩
      have s4 := same_new (o := .lst xs) nL
      have x4 := s4 _ _ (s3 _ _ hx)
      refine ⟨_, rfl, x, CC, dx, [], rfl, x4, hc, nl, by decide, ?_⟩
      have b5 : But x H (L2.upd (L2.upd H2 L (.lst xs)) x (.ins CC dx (putF "_loops" (.ref L) []))) := (But.of fun b o q => s4 b o (s3 b o q)).trans But.put
      refine ⟨_, rfl, b, ns, rfl, sql_but hx b5 hys, fun ms G perm pw nG => ?_⟩
      have xG : x ≠ G := ne_of_none upd_same nG
      have b6 : But x H (L2.upd (L2.upd (L2.upd H2 L (.lst xs)) x (.ins CC dx (putF "_loops" (.ref L) []))) G (.lst (ms.map V.int))) := b5.trans (But.of (same_new nG))
      have x6 := (upd_ne (H := L2.upd (L2.upd H2 L (.lst xs)) x (.ins CC dx (putF "_loops" (.ref L) []))) (o := .lst (ms.map V.int)) xG).trans upd_same
      refine ⟨_, rfl, x, CC, dx, _, rfl, x6, hc, nf, (by show 1 < 1000; decide), ?_⟩
      have nL0 : H L = none := by
        cases q : H L with
        | none => rfl
        | some o => rw [s3 _ _ q] at nL; cases nL
      have Lx : L ≠ x := (ne_of_none (s3 _ _ hx) nL).symm
      have eL5 : (L2.upd (L2.upd H2 L (.lst xs)) x (.ins CC dx (putF "_loops" (.ref L) []))) L = some (.lst xs) := by
        rw [upd_ne Lx]
        exact upd_same
      have LG : L ≠ G := ne_of_none eL5 nG
      have nG0 : H G = none := by
        cases q : H G with
        | none => rfl
        | some o => rw [b5 _ _ (Ne.symm xG) q] at nG; cases nG
      refine k3 ds ns ms L G _ xs (du.trans rfl) rfl rfl perm pw nL0 nG0 LG ?_ ?_ hds ?_ (b6.trans But.put)
      · rw [upd_same]
        rfl
      · rw [upd_ne Lx, upd_ne LG]
        exact eL5
      · rw [upd_ne (Ne.symm xG)]
        exact upd_same
    · rw [xl] at e2
      rw [e2] at du
      exact (k2 i du).more s1
end
end B7
/-! xs[1::-1]: the first two of a list, the second one ahead. -/
namespace MXo
open PySem PySem.Spec PyProof.Rows L2
section
variable {X : Cx}
def tRev1 (K : PySem.W.Frag) (te : TE) : TE := fun σ H Q => te σ H fun x H1 => ∃ a u v r, x = .ref a ∧ SqL K H1 a (u :: v :: r) ∧ ∀ p, H1 p = none → Q (.ref p) (upd H1 p (.lst [v, u]))
theorem pick1 (u v : Value) (r : List Value) : slicePick (u :: v :: r).toArray (some 1) none (some (-1)) = #[v, u] := by
  unfold slicePick
  have e : sliceBounds (some 1) none (some (-1)) (u :: v :: r).toArray.size = (1, -1, -1) := by
    unfold sliceBounds
    simp only [Option.getD_some, List.size_toArray, List.length_cons]
    have : max (-1) (min (1 : Int) (((r.length + 1 + 1 : Nat) : Int) - 1)) = 1 := by omega
    simp [this]
    omega
  rw [e]
  rfl
theorem pe_rev1 {e : Expr} {te : TE} {k k1 : Nat} {p0 p1 p2 p3 pos : Pos} (he : PE X e te) : PE X (.Subscript e (.Slice (some (.Constant (.int 1) k1 p0)) none (some (.UnaryOp .USub (.Constant (.int 1) k p1) p2)) p3) pos) (tRev1 X.K te) := by
  refine ⟨fun pins s σ H Q I h => ?_⟩
  refine Subscript_ (thn (he.run pins s σ H _ I h) fun v s1 ⟨x, H1, I1, r1, q1⟩ => ?_)
  obtain ⟨a, y0, y1, xr, ex, hx, q⟩ := q1
  subst ex
  cases r1
  have hlo : PO X (some (.Constant (.int 1) k1 p0)) (tPart (tC (.int 1))) := po_some pe_int
  have hst : PO X (some (.UnaryOp .USub (.Constant (.int 1) k p1) p2)) (tPart (tUn (rU fun i => .int (-i)) (tC (.int 1)))) := po_some (pe_un un_neg pe_int)
  refine wpAny_Slice (thn (hlo.run pins s1 σ H1 (fun o H2 => o = some 1 ∧ H2 = H1) I1 ⟨1, rfl, rfl, rfl⟩) fun vl s2 ⟨l, H2, I2, pl, el, e2⟩ => ?_)
  subst el e2
  refine thn (po_none.run pins s2 σ H2 (fun o H3 => o = none ∧ H3 = H2) I2 ⟨rfl, rfl⟩) fun vu s3 ⟨u, H3, I3, pu, eu, e3⟩ => ?_
  subst eu e3
  refine thn (hst.run pins s3 σ H3 (fun o H4 => o = some (-1) ∧ H4 = H3) I3 ⟨1, rfl, -1, rfl, rfl, rfl⟩) fun vs s4 ⟨o, H4, I4, ps, eo, e4⟩ => ?_
  subst eo e4
  have I5 : Inv X pins σ H4 { s4 with heap := s4.heap.push { cls := .type "slice", data := .fields #[vl, vu, vs] } } := I4.kept (t' := s4.toks) fun b ob q => Heap.get?_push_of_some _ q
  obtain ⟨its, r, ht, hz⟩ := I5.list hx
  have hlen := r.length
  show wpAny (model X.prog X.w) X.A (subscriptTail e (.Slice (some (.Constant (.int 1) k1 p0)) none (some (.UnaryOp .USub (.Constant (.int 1) k p1) p2)) p3) (.ref a) (.ref s4.heap.objs.size)) (EP X pins σ Q) X.xe { s4 with heap := s4.heap.push { cls := .type "slice", data := .fields #[vl, vu, vs] } }
  refine tail_any (ops := [.ref a, .ref s4.heap.objs.size]) ht.isList.typeIs (PySem.slot_list_getitem.lookup) ?_ (by with_unfolding_all rfl)
  refine wpAny_getItem_list_slice ht.isList (Heap.IsSliceOf.new _ vl vu vs) pl pu ps (by decide) ?_ (by rw [List.size_toArray]; omega)
  cases r with
  | cons r0 r' =>
    cases r' with
    | cons r1 r2 =>
      rw [pick1]
      refine ⟨.ref _, _, I5.laid (t' := s4.toks) (o := .lst [y1, y0]) (fun b ob q => Heap.get?_push_of_some _ q) (Nat.le_refl _) ?_, rfl, q _ (I5.hok.fresh (Nat.le_refl _))⟩
      exact ⟨by show 2 ≤ sizeLine; decide, _, 0, .cons r1 (.cons r0 .nil), Heap.get?_push_size _ rfl⟩
end
end MXo
/-! _law_row_done answers rowD. -/
namespace B7
open PySem PySem.Spec PyProof.Rows L2 LK MXo
abbrev sRow : Stmt := top 45
theorem scRow : FnScope ["loops_here", "fast_here", "needle_here", "course", "number", "yarn", "stitches_here", "made", "tied", "done", "left", "link", "k", "stitch_here", "need", "through", "turn"] ["loops_here", "fast_here", "needle_here", "course", "number"] (defScope sRow) := ⟨rfl, rfl, rfl, by decide +kernel, rfl, by decide +kernel, by decide +kernel⟩
abbrev cou (y : Str) (qs : List Sti) : PyData := .tuple [.str y, .tuple (qs.map stiD)]
/-- a state as it is told: all of it new since H0 -/
def Told3 (K : PySem.W.Frag) (H0 H : Hp) (v : V) (st : St3) : Prop := ∃ (t L T D : Addr) (xs : List V), v = .ref t ∧ H0 L = none ∧ H0 T = none ∧ H0 D = none ∧ H t = some (.tup [.ref L, .ref T, .ref D]) ∧ H L = some (.lst xs) ∧ DpAll K H xs (st.1.map lpD) ∧ H T = some (.lst (st.2.1.map V.int)) ∧ H D = some (.lst (st.2.2.map V.int))
def spRow (K : PySem.W.Frag) : Sp := fun vs H Q _ => ∃ (la fa na co : Addr) (number : Int) (xs : List V) (st : St3) (y : Str) (qs : List Sti), vs = [.ref la, .ref fa, .ref na, .ref co, .int number] ∧ SqL K H la xs ∧ DpAll K H xs (st.1.map lpD) ∧ SqL K H fa (st.2.1.map V.int) ∧ SqL K H na (st.2.2.map V.int) ∧ Dp K H (.ref co) (cou y qs) ∧
  st.1.length ≤ 10000 ∧ st.2.1.length ≤ 10000 ∧ st.2.2.length ≤ 10000 ∧ qs.length ≤ 1000 ∧ (∀ q ∈ qs, smallQ q) ∧
  ∀ (v : V) (H' : Hp), Same H H' → (∀ st', rowD y qs st = some st' → Told3 K H H' v st') → (rowD y qs st = none → ∃ t a b, v = .ref t ∧ H' t = some (.tup [a, b])) → Q v H'
/-- a row under way -/
structure Rwy (K : PySem.W.Frag) (H Hn : Hp) (L T D F : Addr) (xs : List V) (s : Sw) : Prop where
  nL : H L = none
  nT : H T = none
  nD : H D = none
  sm : Same H Hn
  eL : Hn L = some (.lst xs)
  dL : DpAll K Hn xs (s.ls.map lpD)
  eT : Hn T = some (.lst (s.ti.map V.int))
  eD : Hn D = some (.lst (s.dn.map V.int))
  eF : Hn F = some (.lst (s.lf.map V.int))
  TL : T ≠ L
  DL : D ≠ L
  FL : F ≠ L
theorem gone {H H1 : Hp} {p : Addr} (s : Same H H1) (n : H1 p = none) : H p = none := by
  cases e : H p with
  | none => rfl
  | some o => rw [s _ _ e] at n; cases n
theorem cut_drop {xs : List V} {i : Nat} : cutV xs (some (i : Int)) none = xs.drop i := by
  unfold cutV
  rw [HT.sIx_nat, HT.sIx_none]
  rcases Nat.le_total i xs.length with h | h
  · rw [Nat.min_eq_left h, List.take_of_length_le (by rw [List.length_drop]; omega)]
  · rw [Nat.min_eq_right h, List.drop_eq_nil_of_le (Nat.le_refl _), List.drop_eq_nil_of_le h, List.take_nil]
theorem cut_to {xs : List V} {i : Nat} : cutV xs none (some (i : Int)) = xs.take i := by
  unfold cutV
  rw [HT.sIx_nat, HT.sIx_none]
  rcases Nat.le_total i xs.length with h | h
  · rw [Nat.min_eq_left h]
    rfl
  · rw [Nat.min_eq_right h, List.take_of_length_le h, Nat.sub_zero, List.drop_zero, List.take_of_length_le (Nat.le_refl _)]
theorem cut_last {xs : List V} : cutV xs none (some (-1)) = xs.dropLast := by
  unfold cutV
  rw [HT.sIx_none]
  have e : HT.sIx xs.length xs.length (some (-1)) = xs.length - 1 := by
    show (if (-1 : Int) < 0 then ((-1 : Int) + (xs.length : Int)).toNat else min (-1 : Int).toNat xs.length) = _
    rw [if_pos (by decide)]
    omega
  rw [e, List.drop_zero, List.dropLast_eq_take, Nat.sub_zero]
theorem sh_sti (q : Sti) : SeqAt.shaped (stiD q) = true := by
  cases q <;> refine shaped_of ?_ (by simp [stiD, PyData.depth, PyData.depthAll]) <;> simp only [stiD, PyData.canLay0, PyData.canLayAll0] <;> decide +kernel
structure Bnd (n : Nat) (s : Sw) : Prop where
  ls : s.ls.length ≤ n
  ti : s.ti.length ≤ n
  dn : s.dn.length ≤ n
  lf : s.lf.length ≤ n
theorem Bnd.step {n : Nat} {y : Str} {q : Sti} {s : Sw} (h : Bnd n s) (sm : smallQ q) : Bnd (n + 3) (doneS y q s) := by
  obtain ⟨h1, h2, h3, h4⟩ := h
  cases q with
  | crs => 
    refine ⟨by show s.ls.length ≤ _; omega, by show s.ti.length ≤ _; omega, by show s.dn.length ≤ _; omega, ?_⟩
    show ((s.lf.take 2).reverse ++ s.lf.drop 2).length ≤ _
    rw [List.length_append, List.length_reverse, List.length_take, List.length_drop]
    omega
  | pas =>
    refine ⟨by show s.ls.length ≤ _; omega, by show s.ti.length ≤ _; omega, ?_, ?_⟩
    · show (s.dn ++ s.lf.take 1).length ≤ _
      rw [List.length_append, List.length_take]
      omega
    · show (s.lf.drop 1).length ≤ _
      rw [List.length_drop]
      omega
  | chn =>
    refine ⟨?_, by show s.ti.length ≤ _; omega, ?_, ?_⟩
    · show (s.ls ++ [_]).length ≤ _
      rw [List.length_append, List.length_singleton]
      omega
    · show ((match s.lk with | none => s.dn | some _ => s.dn.dropLast) ++ [(s.ls.length : Int)]).length ≤ _
      rw [List.length_append, List.length_singleton]
      cases s.lk with
      | none => dsimp only; omega
      | some v => dsimp only; rw [List.length_dropLast]; omega
    · show (s.lf.drop 1).length ≤ _
      rw [List.length_drop]
      omega
  | st j k =>
    obtain ⟨sj, sk⟩ : j ≤ 3 ∧ k ≤ 3 := sm
    refine ⟨?_, ?_, ?_, ?_⟩
    · show (knit y (srt (s.lf.take j)) k (s.ls, s.dn)).1.length ≤ _
      rw [knit_len]
      show s.ls.length + k ≤ _
      omega
    · show (if k = 0 then s.ti ++ s.lf.take j else s.ti).length ≤ _
      split
      · rw [List.length_append, List.length_take]
        omega
      · omega
    · show (knit y (srt (s.lf.take j)) k (s.ls, s.dn)).2.length ≤ _
      rw [knit_dn, List.length_append, List.length_map, List.length_range]
      show s.dn.length + k ≤ _
      omega
    · show (s.lf.drop j).length ≤ _
      rw [List.length_drop]
      omega
theorem Rwy.nw {K : PySem.W.Frag} {H Hn : Hp} {L T D F p : Addr} {xs : List V} {s : Sw} (h : Rwy K H Hn L T D F xs s) (n : Hn p = none) : H p = none ∧ p ≠ L :=
  ⟨gone h.sm n, (ne_of_none h.eL n).symm⟩
theorem Rwy.go {K : PySem.W.Frag} {H Hn Hn' : Hp} {L T D F T' D' F' : Addr} {xs : List V} {s : Sw} {ti dn lf : List Int} {lk : Option Int} (h : Rwy K H Hn L T D F xs s) (sm : Same Hn Hn') (hT : H T' = none ∧ T' ≠ L) (hD : H D' = none ∧ D' ≠ L) (hF : F' ≠ L) (eT : Hn' T' = some (.lst (ti.map V.int))) (eD : Hn' D' = some (.lst (dn.map V.int))) (eF : Hn' F' = some (.lst (lf.map V.int))) : Rwy K H Hn' L T' D' F' xs ⟨s.ls, ti, dn, lf, lk⟩ :=
  ⟨h.nL, hT.1, hD.1, h.sm.trans sm, sm _ _ h.eL, dps_same sm h.dL, eT, eD, eF, hT.2, hD.2, hF⟩
/-- one loop more -/
theorem Rwy.app {K : PySem.W.Frag} {H Hn : Hp} {L T D F : Addr} {xs : List V} {s : Sw} {x : V} {l : Lp} (h : Rwy K H Hn L T D F xs s) (d : Dp K Hn x (lpD l)) : Rwy K H (upd Hn L (.lst (xs ++ [x]))) L T D F (xs ++ [x]) ⟨s.ls ++ [l], s.ti, s.dn, s.lf, s.lk⟩ :=
  ⟨h.nL, h.nT, h.nD, fun b u e => by rw [upd_ne (ne_of_none e h.nL)]; exact h.sm b u e, upd_same, by
    rw [List.map_append]
    exact dps_app (lps_tk (Tk.own h.eL) h.dL) (.cons (lp_tk (Tk.own h.eL) d) .nil), by rw [upd_ne h.TL]; exact h.eT, by rw [upd_ne h.DL]; exact h.eD, by rw [upd_ne h.FL]; exact h.eF, h.TL, h.DL, h.FL⟩
theorem exK {te : TE} {σ : St} {H : Hp} {Q : VK} (R : V → Hp → Prop) (h : ∀ Q' : VK, (∀ x H', R x H' → Q' x H') → te σ H Q') (q : ∀ x H', R x H' → Q x H') : te σ H Q := h Q q
theorem few_row {y : Str} {qs : List Sti} {st : St3} {i : Nat} (h : rowS y (qs.take i) ⟨st.1, st.2.1, [], st.2.2, none⟩ = none) : rowD y qs st = none := by
  unfold rowD
  rw [rowS_fail h]
theorem eqc (q : Sti) : PyData.eqv (stiD q) (.str (Str.ofString "cross")) = (match q with | .crs => true | _ => false) := by
  cases q with
  | st j k => rfl
  | _ => decide +kernel
theorem eqp (q : Sti) : PyData.eqv (stiD q) (.str (Str.ofString "pass")) = (match q with | .pas => true | _ => false) := by
  cases q with
  | st j k => rfl
  | _ => decide +kernel
theorem eqh (q : Sti) : PyData.eqv (stiD q) (.str (Str.ofString "chain")) = (match q with | .chn => true | _ => false) := by
  cases q with
  | st j k => rfl
  | _ => decide +kernel
theorem isS (q : Sti) : isK (stiD q) "str" = (match q with | .st _ _ => false | _ => true) := by
  cases q with
  | st j k => rfl
  | _ => rfl
theorem sh_w (w : String) (h : PyData.strOk (Str.ofString w) = true) : SeqAt.shaped (.str (Str.ofString w)) = true := shaped_of (by simpa only [PyData.canLay0] using h) (by simp [PyData.depth])
def lkV : Option Int → V
  | none => .non
  | some v => .int v
section
variable {P : Program} {w : World} {K : PySem.W.Frag} {mg : Str → Option Value} {base : Heap}
theorem ok_row {f : Addr} {fd : FuncData} (F : Fun K "_law_row_done" "_law_row_done" sRow f fd) (B : Bl mg) :
    FnOk P w K mg base CX0 1 f fd ["loops_here", "fast_here", "needle_here", "course", "number"] (spRow K) := by
  refine F.ok scRow (fun vs H Q E h => ?_) (fun cdv A outer s H vs Q E hr h => ?_)
  · obtain ⟨la, fa, na, co, number, _, _, _, _, rfl, _⟩ := h
    rfl
  · obtain ⟨la, fa, na, co, number, xs, st, y, qs, rfl, hl, dl, hf, hn, dc, l1, l2, l3, l4, sq, k⟩ := h
    refine ⟨_, pss_cons (ps_asg (pv 3) (pg_tup rfl (pgs_cons (pg_name (i := 5) scRow.nd rfl (Or.inl rfl)) (pgs_cons (pg_name (i := 6) scRow.nd rfl (Or.inl rfl)) pgs_nil))))
      (pss_cons (ps_par (i := 7) (j := 8) rfl scRow.nd rfl rfl (by decide) rfl rfl (pa_cons (pe_callTy call_list_of (by rfl) (B "list" (by decide)) (by decide +kernel) (pa_cons (pv 0) pa_nil)) (pa_cons (pe_callTy call_list_of (by rfl) (B "list" (by decide)) (by decide +kernel) (pa_cons (pv 1) pa_nil)) pa_nil)) (by rfl))
      (pss_cons (ps_par3 (i := 9) (j := 10) (l := 11) rfl scRow.nd rfl rfl rfl (by decide) (by decide) (by decide) rfl rfl rfl (pa_cons (pe_lst pa_nil) (pa_cons (pe_callTy call_list_of (by rfl) (B "list" (by decide)) (by decide +kernel) (pa_cons (pv 2) pa_nil)) (pa_cons pe_non pa_nil))) (by rfl))
      (pss_cons (ps_for PassesOwn.never rfl (pi_range1 (by rfl) (B "range" (by decide)) (pa_cons (pe_callB call_len_seq (by rfl) (B "len" (by decide)) (by decide +kernel) (pa_cons (pv 6) pa_nil)) pa_nil)) (pg_name (i := 12) scRow.nd rfl (Or.inl rfl)) (pss_cons (ps_set (i := 13) scRow.nd rfl (Or.inl rfl) (pe_ix (ixt (K := K)) (pv 6) (pv 12) (fun _ _ => rfl)))
      (pss_cons (ps_set (i := 14) scRow.nd rfl (Or.inl rfl) (pe_ifExp (pt_cmpR (op_eqD hr.units) (pv 13) pe_str (nomark _)) pe_int (pe_ifExp (pt_val (pe_callB call_isi (by rfl) (B "isinstance" (by decide)) (by decide +kernel) (pa_cons (pv 13) (pa_cons (pe_bltn (v := .ty "str") rfl (B "str" (by decide)) (by decide +kernel) rfl) pa_nil)))) pe_int (pe_ix (ixt (K := K)) (pv 13) pe_int (fun _ _ => rfl)))))
      (pss_cons (ps_if (pt_cmpR op_gt (pv 14) (pe_callB call_len_seq (by rfl) (B "len" (by decide)) (by decide +kernel) (pa_cons (pv 10) pa_nil)) (nomark _)) (pss_one (ps_ret (pe_tup (pa_cons pe_str (pa_cons (pe_tup (pa_cons (pv 4) (pa_cons (pv 12) pa_nil))) pa_nil))))) pss_nil)
      (pss_one (ps_if (pt_cmpR (op_eqD hr.units) (pv 13) pe_str (nomark _)) (pss_one (ps_par (i := 10) (j := 11) rfl scRow.nd rfl rfl (by decide) rfl rfl (pa_cons (pe_op op_cat (pe_rev1 (pv 10)) (pe_slice sl_list (pv 10) (po_some pe_int) po_none)) (pa_cons pe_non pa_nil)) (by rfl))) (pss_one (ps_if (pt_cmpR (op_eqD hr.units) (pv 13) pe_str (nomark _)) (pss_one (ps_par3 (i := 9) (j := 10) (l := 11) rfl scRow.nd rfl rfl rfl (by decide) (by decide) (by decide) rfl rfl rfl (pa_cons (pe_op op_cat (pv 9) (pe_slice sl_list (pv 10) po_none (po_some pe_int))) (pa_cons (pe_slice sl_list (pv 10) (po_some pe_int) po_none) (pa_cons pe_non pa_nil))) (by rfl))) (pss_one (ps_if (pt_cmpR (op_eqD hr.units) (pv 13) pe_str (nomark _)) (pss_cons (ps_set (i := 15) scRow.nd rfl (Or.inl rfl) (pe_op op_cat (pe_slice sl_list (pv 10) po_none (po_some pe_int)) (pe_ifExp (pt_cmpR op_notN (pv 11) pe_non (nomark _)) (pe_lst (pa_cons (pv 11) pa_nil)) (pe_lst pa_nil))))
      (pss_cons (ps_expr (pe_bm PySem.F.plainAttrs_list PySem.F.slot_list_append PySem.F.type_list_append mt_append (pv 7) (pa_cons (pe_tup (pa_cons (pv 5) (pa_cons (pe_callTy call_tuple_of (by rfl) (B "tuple" (by decide)) (by decide +kernel) (pa_cons (pe_callB cr_sorted (by rfl) (B "sorted" (by decide)) (by decide +kernel) (pa_cons (pv 15) pa_nil)) pa_nil)) pa_nil))) pa_nil)))
      (pss_cons (ps_set (i := 9) scRow.nd rfl (Or.inl rfl) (pe_op op_cat (pe_ifExp (pt_cmpR op_isN (pv 11) pe_non (nomark _)) (pv 9) (pe_slice sl_list (pv 9) po_none (po_some (pe_un un_neg pe_int)))) (pe_lst (pa_cons (pe_op op_sub (pe_callB call_len_seq (by rfl) (B "len" (by decide)) (by decide +kernel) (pa_cons (pv 7) pa_nil)) pe_int) pa_nil))))
      (pss_one (ps_par (i := 10) (j := 11) rfl scRow.nd rfl rfl (by decide) rfl rfl (pa_cons (pe_slice sl_list (pv 10) (po_some pe_int) po_none) (pa_cons (pe_op op_sub (pe_callB call_len_seq (by rfl) (B "len" (by decide)) (by decide +kernel) (pa_cons (pv 7) pa_nil)) pe_int) pa_nil)) (by rfl)))))) (pss_cons (ps_for PassesOwn.never rfl (pi_range1 (by rfl) (B "range" (by decide)) (pa_cons (pe_ix (ixt (K := K)) (pv 13) pe_int (fun _ _ => rfl)) pa_nil)) (pg_name (i := 16) scRow.nd rfl (Or.inl rfl)) (pss_cons (ps_expr (pe_bm PySem.F.plainAttrs_list PySem.F.slot_list_append PySem.F.type_list_append mt_append (pv 7) (pa_cons (pe_tup (pa_cons (pv 5) (pa_cons (pe_callTy call_tuple_of (by rfl) (B "tuple" (by decide)) (by decide +kernel) (pa_cons (pe_callB cr_sorted (by rfl) (B "sorted" (by decide)) (by decide +kernel) (pa_cons (pe_slice sl_list (pv 10) po_none (po_some (pv 14))) pa_nil)) pa_nil)) pa_nil))) pa_nil)))
      (pss_one (ps_set (i := 9) scRow.nd rfl (Or.inl rfl) (pe_op op_cat (pv 9) (pe_lst (pa_cons (pe_op op_sub (pe_callB call_len_seq (by rfl) (B "len" (by decide)) (by decide +kernel) (pa_cons (pv 7) pa_nil)) pe_int) pa_nil)))))))
      (pss_cons (ps_if (pt_cmpR op_eq (pe_ix (ixt (K := K)) (pv 13) pe_int (fun _ _ => rfl)) pe_int (nomark _)) (pss_one (ps_set (i := 8) scRow.nd rfl (Or.inl rfl) (pe_op op_cat (pv 8) (pe_slice sl_list (pv 10) po_none (po_some (pv 14)))))) pss_nil)
      (pss_one (ps_par (i := 10) (j := 11) rfl scRow.nd rfl rfl (by decide) rfl rfl (pa_cons (pe_slice sl_list (pv 10) (po_some (pv 14)) po_none) (pa_cons pe_non pa_nil)) (by rfl)))))))))))))))
      (pss_one (ps_ret (pe_ifExp (pt_cmpR (op_eqD hr.units) (pv 10) (pe_lst pa_nil) (nomark _)) (pe_tup (pa_cons (pv 7) (pa_cons (pv 8) (pa_cons (pv 9) pa_nil)))) (pe_tup (pa_cons pe_str (pa_cons (pe_tup (pa_cons (pv 4) (pa_cons (pe_callB call_len_seq (by rfl) (B "len" (by decide)) (by decide +kernel) (pa_cons (pv 10) pa_nil)) pa_nil))) pa_nil))))))))), ?_⟩
    cases dc with
    | tup sc dcs =>
      cases dcs with
      | cons dy dcs =>
        cases dy
        cases dcs with
        | cons dq dn =>
          cases dn
          cases dq with
          | @tup sa sxs _ sq' dqs =>
            refine ⟨_, rfl, co, _, rfl, sc, rfl, _, _, rfl, _, _, rfl, rfl, ?_⟩
            refine ⟨_, rfl, la, xs, rfl, .inl hl, fun L nL => ?_⟩
            have s1 : Same H (upd H L (.lst xs)) := same_new nL
            refine ⟨_, rfl, fa, _, rfl, .inl (s1.seq hf), fun T nT => ⟨_, _, rfl, ?_⟩⟩
            have s2 := s1.trans (same_new (o := .lst (st.2.1.map V.int)) nT)
            refine ⟨by show 0 ≤ sizeLine; decide, fun D nD => ?_⟩
            have s3 := s2.trans (same_new (o := .lst []) nD)
            refine ⟨_, rfl, na, _, rfl, .inl (s3.seq hn), fun F nF => ⟨_, _, _, rfl, ?_⟩⟩
            have s4 := s3.trans (same_new (o := .lst (st.2.2.map V.int)) nF)
            have LT := ne_of_none (upd_same (H := H) (a := L) (o := .lst xs)) nT
            have eL := same_new (o := .lst []) nD _ _ (same_new (o := .lst (st.2.1.map V.int)) nT _ _ (upd_same (H := H) (a := L) (o := .lst xs)))
            have eT := same_new (o := .lst []) nD _ _ (upd_same (H := upd H L (.lst xs)) (a := T) (o := .lst (st.2.1.map V.int)))
            have eD := upd_same (H := upd (upd H L (.lst xs)) T (.lst (st.2.1.map V.int))) (a := D) (o := .lst [])
            have s5 := same_new (o := .lst (st.2.2.map V.int)) nF
            have w0 : Rwy K H (upd (upd (upd (upd H L (.lst xs)) T (.lst (st.2.1.map V.int))) D (.lst [])) F (.lst (st.2.2.map V.int))) L T D F xs ⟨st.1, st.2.1, [], st.2.2, none⟩ :=
              ⟨nL, gone s1 nT, gone s2 nD, s4, s5 _ _ eL, dps_same s4 dl, s5 _ _ eT, s5 _ _ eD, upd_same, LT.symm, (ne_of_none (same_new (o := .lst (st.2.1.map V.int)) nT _ _ (upd_same (H := H) (a := L) (o := .lst xs))) nD).symm, (ne_of_none eL nF).symm⟩
            have ql := dps_len dqs
            rw [List.length_map] at ql
            refine ⟨_, rfl, _, _, rfl, .inr (same_tup s4 sq'), _, rfl, by omega, by omega, ?_⟩
            refine for_range (lo := 0) (n := sxs.length) (fun i σ Hn => ∃ (s : Sw) (T D F : Addr) (xs : List V) (o12 o13 o14 o15 o16 : Option V), σ = [some (.ref la), some (.ref fa), some (.ref na), some (.ref co), some (.int number), some (.str y), some (.ref sa), some (.ref L), some (.ref T), some (.ref D), some (.ref F), some (lkV s.lk), o12, o13, o14, o15, o16] ∧ rowS y (qs.take i) ⟨st.1, st.2.1, [], st.2.2, none⟩ = some s ∧ Bnd (10000 + 3 * i) s ∧ Rwy K H Hn L T D F xs s)
              ⟨_, _, _, _, _, _, _, _, _, _, rfl, rfl, ⟨l1, l2, Nat.zero_le _, l3⟩, w0⟩ (fun i σ H2 hi hI => ?_) (fun σ H2 hI => ?_)
            · obtain ⟨s, T, D, F, xs, o12, o13, o14, o15, o16, rfl, hrow, hb, hw⟩ := hI
              obtain ⟨vq, dq, q1, q2, q3⟩ := dps_at (dps_same hw.sm dqs) (i := i) (by rw [List.length_map]; omega)
              rw [List.getElem?_map] at q2
              obtain ⟨q, hq, rfl⟩ := Option.map_eq_some_iff.mp q2
              have hnx := rowS_succ hrow hq
              have qm := sq q (List.mem_of_getElem? hq)
              have sQ : SqT K H2 sa sxs := same_tup hw.sm sq'
              have at' : atI sxs (0 + (i : Int)) = some vq := by rw [Int.zero_add]; exact atI_nat q1
              refine ⟨_, rfl, _, rfl, sa, _, _, _, rfl, rfl, sQ, at', ?_⟩
              have shc := sh_w "cross" (by decide +kernel)
              have shp := sh_w "pass" (by decide +kernel)
              have shh := sh_w "chain" (by decide +kernel)
              have ty2 : sizeLine = 16777216 := sizeLine_eq
              -- need
              dsimp only [gName, tSeq, tAsg]
              refine exK (fun x H' => x = .int (needOf q) ∧ H' = H2) (fun Q' q' => ?_) ?_
              · refine ⟨_, rfl, stiD q, .str (Str.ofString "cross"), q3, .str _, sh_sti q, shc, _, rfl, ?_⟩
                rw [eqc]
                cases q with
                | crs => exact LK.ifT rfl (q' _ _ ⟨rfl, rfl⟩)
                | pas => exact LK.ifF rfl ⟨_, rfl, _, _, _, _, _, rfl, .ty "str", dp_ty q3, kit_d q3 "str" (by decide), _, rfl, LK.ifT rfl (q' _ _ ⟨rfl, rfl⟩)⟩
                | chn => exact LK.ifF rfl ⟨_, rfl, _, _, _, _, _, rfl, .ty "str", dp_ty q3, kit_d q3 "str" (by decide), _, rfl, LK.ifT rfl (q' _ _ ⟨rfl, rfl⟩)⟩
                | st j k =>
                  refine LK.ifF rfl ⟨_, rfl, _, _, _, _, _, rfl, .ty "str", dp_ty q3, kit_d q3 "str" (by decide), _, rfl, LK.ifF rfl ?_⟩
                  cases q3 with
                  | tup st3 d3 =>
                    cases d3 with
                    | cons e1 d3 =>
                      cases e1
                      exact ⟨_, rfl, _, _, 0, _, rfl, rfl, st3, atI_nat (j := 0) rfl, q' _ _ ⟨rfl, rfl⟩⟩
              rintro x H2 ⟨rfl, rfl⟩
              refine ⟨_, rfl, _, rfl, F, _, rfl, .inl (SqL.of hw.eF), _, _, rfl, rfl, _, rfl, ?_⟩
              rw [List.length_map]
              by_cases few : (s.lf.length : Int) < (needOf q : Int)
              · refine LK.ifT (decide_eq_true few) ?_
                have nn : stepS y q s = none := by
                  unfold stepS
                  rw [if_pos (by omega)]
                refine ⟨_, rfl, _, rfl, by show 2 ≤ sizeLine; decide, fun p np => ⟨by show 2 ≤ sizeLine; decide, fun t nt => k _ _ (hw.sm.trans ((same_new np).trans (same_new nt))) (fun st' e => ?_) (fun _ => ⟨t, _, _, rfl, upd_same⟩)⟩⟩
                rw [few_row (hnx.trans nn)] at e
                cases e
              refine LK.ifF (decide_eq_false few) ?_
              have nn : stepS y q s = some (doneS y q s) := by
                unfold stepS
                rw [if_neg (by omega)]
              have hnx' := hnx.trans nn
              have hb' := hb.step (y := y) qm
              have hb2 : Bnd (10000 + 3 * (i + 1)) (doneS y q s) := ⟨by have := hb'.ls; omega, by have := hb'.ti; omega, by have := hb'.dn; omega, by have := hb'.lf; omega⟩
              have b1 := hb.ls
              have b2 := hb.ti
              have b3 := hb.dn
              have b4 := hb.lf
              refine ⟨_, rfl, stiD q, .str (Str.ofString "cross"), q3, .str _, sh_sti q, shc, _, rfl, ?_⟩
              rw [eqc]
              have c2 : ∀ (xs : List Int) (n : Nat), cutV (xs.map V.int) (some (n : Int)) none = (xs.drop n).map V.int := fun xs n => by rw [cut_drop, List.map_drop]
              have c1 : ∀ (xs : List Int) (n : Nat), cutV (xs.map V.int) none (some (n : Int)) = (xs.take n).map V.int := fun xs n => by rw [cut_to, List.map_take]
              cases q with
              | crs =>
                refine LK.ifT rfl ?_
                obtain ⟨a, b, r, hl2⟩ : ∃ a b r, s.lf = a :: b :: r := by
                  cases e : s.lf with
                  | nil => rw [e] at few; exact absurd (show ((0 : Nat) : Int) < ((2 : Nat) : Int) by decide) few
                  | cons a r =>
                    cases r with
                    | nil => rw [e] at few; exact absurd (show ((1 : Nat) : Int) < ((2 : Nat) : Int) by decide) few
                    | cons b r => exact ⟨a, b, r, rfl⟩
                have eF := hw.eF
                have eqf : (doneS y .crs s).lf = b :: a :: r := by
                  show (s.lf.take 2).reverse ++ s.lf.drop 2 = _
                  rw [hl2]
                  rfl
                rw [hl2] at eF
                refine ⟨_, rfl, F, _, _, _, rfl, SqL.of eF, fun p np => ?_⟩
                have t1 := same_new (o := .lst [.int b, .int a]) np
                refine ⟨_, rfl, 2, rfl, F, _, rfl, SqL.of (t1 _ _ eF), fun p2 np2 => ?_⟩
                have c := c2 (a :: b :: r) 2
                have t2 := t1.trans (same_new (o := .lst (cutV (V.int a :: V.int b :: r.map V.int) (some 2) none)) np2)
                refine ⟨p, p2, _, _, rfl, rfl, same_new np2 _ _ upd_same, upd_same, ?_, fun p3 np3 => ⟨_, _, rfl, ?_⟩⟩
                · have := cutV_length ((a :: b :: r).map V.int) (some 2) none
                  rw [hl2] at b4
                  simp only [List.length_cons, List.length_map, List.length_nil] at this b4 ⊢
                  omega
                have t3 := t2.trans (same_new (o := .lst ([V.int b, V.int a] ++ cutV (V.int a :: V.int b :: r.map V.int) (some 2) none)) np3)
                have n3 := hw.nw (gone t2 np3)
                refine ⟨doneS y .crs s, T, D, p3, xs, _, _, _, _, _, rfl, hnx', hb2, hw.go t3 ⟨hw.nT, hw.TL⟩ ⟨hw.nD, hw.DL⟩ n3.2 (t3 _ _ hw.eT) (t3 _ _ hw.eD) ?_⟩
                rw [upd_same]
                show some (HO.lst (_ ++ cutV ((a :: b :: r).map V.int) (some ((2 : Nat) : Int)) none)) = some (HO.lst ((doneS y .crs s).lf.map V.int))
                rw [c, eqf]
                rfl
              | pas =>
                refine LK.ifF rfl ⟨_, rfl, stiD .pas, .str (Str.ofString "pass"), q3, .str _, sh_sti .pas, shp, _, rfl, ?_⟩
                rw [eqp]
                refine LK.ifT rfl ?_
                refine ⟨_, rfl, _, rfl, 1, rfl, F, _, rfl, SqL.of hw.eF, fun p np => ?_⟩
                have c := c1 s.lf 1
                have c' := c2 s.lf 1
                have t1 := same_new (o := .lst (cutV (s.lf.map V.int) none (some 1))) np
                refine ⟨D, p, _, _, rfl, rfl, t1 _ _ hw.eD, upd_same, ?_, fun p2 np2 => ?_⟩
                · have := cutV_length (s.lf.map V.int) none (some 1)
                  rw [List.length_map] at this ⊢
                  omega
                have t2 := t1.trans (same_new (o := .lst (s.dn.map V.int ++ cutV (s.lf.map V.int) none (some 1))) np2)
                refine ⟨_, rfl, 1, rfl, F, _, rfl, SqL.of (t2 _ _ hw.eF), fun p3 np3 => ⟨_, _, _, rfl, ?_⟩⟩
                have t3 := t2.trans (same_new (o := .lst (cutV (s.lf.map V.int) (some 1) none)) np3)
                have n2 := hw.nw (gone t1 np2)
                have n3 := hw.nw (gone t2 np3)
                refine ⟨doneS y .pas s, T, p2, p3, xs, _, _, _, _, _, rfl, hnx', hb2, hw.go t3 ⟨hw.nT, hw.TL⟩ n2 n3.2 (t3 _ _ hw.eT) ?_ ?_⟩
                · have := same_new (o := .lst (cutV (s.lf.map V.int) (some 1) none)) np3 _ _ (upd_same (a := p2) (o := .lst (s.dn.map V.int ++ cutV (s.lf.map V.int) none (some 1))))
                  rw [this]
                  show some (HO.lst (_ ++ cutV (s.lf.map V.int) none (some ((1 : Nat) : Int)))) = some (HO.lst ((s.dn ++ s.lf.take 1).map V.int))
                  rw [c, List.map_append]
                · rw [upd_same]
                  show some (HO.lst (cutV (s.lf.map V.int) (some ((1 : Nat) : Int)) none)) = some (HO.lst ((s.lf.drop 1).map V.int))
                  rw [c']
              | chn =>
                refine LK.ifF rfl ⟨_, rfl, stiD .chn, .str (Str.ofString "pass"), q3, .str _, sh_sti .chn, shp, _, rfl, ?_⟩
                rw [eqp]
                refine LK.ifF rfl ⟨_, rfl, stiD .chn, .str (Str.ofString "chain"), q3, .str _, sh_sti .chn, shh, _, rfl, ?_⟩
                rw [eqh]
                refine LK.ifT rfl ?_
                have c := c1 s.lf 1
                have c' := c2 s.lf 1
                -- through
                refine ⟨_, rfl, 1, rfl, F, _, rfl, SqL.of hw.eF, fun p np => ?_⟩
                have e1 : upd H2 p (.lst (cutV (s.lf.map V.int) none (some 1))) p = some (.lst ((s.lf.take 1).map V.int)) := by
                  rw [upd_same]
                  show some (HO.lst (cutV (s.lf.map V.int) none (some ((1 : Nat) : Int)))) = _
                  rw [c]
                have t1 := same_new (o := .lst (cutV (s.lf.map V.int) none (some 1))) np
                have np0 := np
                generalize hH3 : upd H2 p (.lst (cutV (s.lf.map V.int) none (some 1))) = H3 at e1 t1
                dsimp only
                refine exK (fun x H' => ∃ p', x = .ref p' ∧ H' p' = some (.lst (s.lk.toList.map V.int)) ∧ Same H3 H') (fun Q' q' => ?_) ?_
                · refine ⟨_, rfl, rfl, _, rfl, ?_⟩
                  cases elk : s.lk with
                  | none => exact LK.ifF rfl ⟨by show 0 ≤ sizeLine; decide, fun p' np' => q' _ _ ⟨p', rfl, by rw [elk]; exact upd_same, same_new np'⟩⟩
                  | some v => exact LK.ifT rfl ⟨_, rfl, by show 1 ≤ sizeLine; decide, fun p' np' => q' _ _ ⟨p', rfl, by rw [elk]; exact upd_same, same_new np'⟩⟩
                rintro x H4 ⟨p', rfl, e4, s4'⟩
                have lk1 : s.lk.toList.length ≤ 1 := by cases s.lk <;> simp
                refine ⟨p, p', _, _, rfl, rfl, s4' _ _ e1, e4, ?_, fun pt npt => ?_⟩
                · simp only [List.length_map, List.length_take]
                  omega
                have t4 := t1.trans s4'
                have e5 : upd H4 pt (.lst ((s.lf.take 1).map V.int ++ s.lk.toList.map V.int)) pt = some (.lst ((s.lf.take 1 ++ s.lk.toList).map V.int)) := by
                  rw [upd_same, List.map_append]
                have t5 := t4.trans (same_new (o := .lst ((s.lf.take 1).map V.int ++ s.lk.toList.map V.int)) npt)
                generalize upd H4 pt (.lst ((s.lf.take 1).map V.int ++ s.lk.toList.map V.int)) = H5 at e5 t5
                -- the new loop
                refine ⟨_, rfl, .inl ⟨rfl, _, SqL.of (t5 _ _ hw.eL)⟩, _, rfl, _, rfl, pt, _, rfl, SqL.of e5, ?_, fun ns' Sp perm pw nSp => ?_⟩
                · simp only [List.length_append, List.length_take]
                  omega
                have ens := srt_of perm pw
                subst ens
                have t6 := t5.trans (same_new (o := .lst ((srt (s.lf.take 1 ++ s.lk.toList)).map V.int)) nSp)
                refine ⟨Sp, _, rfl, .inl ⟨SqL.of upd_same, fun Tp nTp => ⟨by show 2 ≤ sizeLine; decide, fun Tl nTl => ?_⟩⟩⟩
                have t7 := t6.trans (same_new (o := .tup ((srt (s.lf.take 1 ++ s.lk.toList)).map V.int)) nTp)
                have t8 := t7.trans (same_new (o := .tup [.str y, .ref Tp]) nTl)
                have eTp := same_new (o := .tup [.str y, .ref Tp]) nTl _ _ (upd_same (H := upd H5 Sp (.lst ((srt (s.lf.take 1 ++ s.lk.toList)).map V.int))) (a := Tp) (o := .tup ((srt (s.lf.take 1 ++ s.lk.toList)).map V.int)))
                have dl : Dp K _ (.ref Tl) (lpD (y, srt (s.lf.take 1 ++ s.lk.toList))) := .tup (.inl (.inl (upd_same (o := .tup [.str y, .ref Tp])))) (.cons (.str y) (.cons (.tup (.inl (.inl eTp)) (dp_ints_of _)) .nil))
                have hw8 := hw.go t8 ⟨hw.nT, hw.TL⟩ ⟨hw.nD, hw.DL⟩ hw.FL (t8 _ _ hw.eT) (t8 _ _ hw.eD) (t8 _ _ hw.eF) (lk := s.lk)
                have xl : xs.length = s.ls.length := by rw [dps_len hw.dL, List.length_map]
                refine ⟨L, xs, .ref Tl, rfl, rfl, hw8.eL, by omega, ?_⟩
                have hw9 := hw8.app dl
                have sm9 : Same H (upd _ L (.lst (xs ++ [.ref Tl]))) := hw9.sm
                generalize upd (upd (upd (upd H5 Sp (.lst ((srt (s.lf.take 1 ++ s.lk.toList)).map V.int))) Tp (.tup ((srt (s.lf.take 1 ++ s.lk.toList)).map V.int))) Tl (.tup [.str y, .ref Tp])) L (.lst (xs ++ [.ref Tl])) = H9 at hw9 sm9
                have len1 : ((xs ++ [V.ref Tl]).length : Int) - 1 = s.ls.length := by
                  rw [List.length_append, List.length_singleton, xl]
                  omega
                obtain ⟨d0, hd0⟩ : ∃ d0, (match s.lk with | none => s.dn | some _ => s.dn.dropLast) = d0 := ⟨_, rfl⟩
                have d0l : d0.length ≤ s.dn.length := by
                  rw [← hd0]
                  cases s.lk with
                  | none => exact Nat.le_refl _
                  | some v => dsimp only; rw [List.length_dropLast]; omega
                dsimp only [gName, tSeq, tAsg, tOp]
                refine exK (fun x H' => ∃ p', x = .ref p' ∧ H' p' = some (.lst (d0.map V.int)) ∧ Same H9 H') (fun Q' q' => ?_) ?_
                · refine ⟨_, rfl, rfl, _, rfl, ?_⟩
                  cases elk : s.lk with
                  | none =>
                    rw [elk] at hd0
                    exact LK.ifT rfl ⟨_, rfl, q' _ _ ⟨D, rfl, by rw [← hd0]; exact hw9.eD, Same.refl _⟩⟩
                  | some v =>
                    rw [elk] at hd0
                    exact LK.ifF rfl ⟨_, rfl, 1, rfl, -1, rfl, D, _, rfl, SqL.of hw9.eD, fun p' np' => q' _ _ ⟨p', rfl, by rw [upd_same, ← hd0]; exact congrArg (fun z => some (HO.lst z)) (by rw [cut_last, List.map_dropLast]), same_new np'⟩⟩
                rintro x H10 ⟨p', rfl, e10, s10⟩
                refine ⟨_, rfl, L, _, rfl, .inl (SqL.of (s10 _ _ hw9.eL)), _, _, rfl, rfl, by show 1 ≤ sizeLine; decide, fun p2 np2 => ?_⟩
                dsimp only
                rw [len1]
                have t10 := s10.trans (same_new (o := .lst [.int (s.ls.length : Int)]) np2)
                refine ⟨p', p2, _, _, rfl, rfl, same_new np2 _ _ e10, upd_same, ?_, fun p3 np3 => ?_⟩
                · rw [List.length_map]
                  simp only [List.length_cons, List.length_nil]
                  omega
                have e11 : upd (upd H10 p2 (.lst [.int (s.ls.length : Int)])) p3 (.lst (d0.map V.int ++ [.int (s.ls.length : Int)])) p3 = some (.lst ((d0 ++ [(s.ls.length : Int)]).map V.int)) := by
                  rw [upd_same, List.map_append]
                  rfl
                have t11 := t10.trans (same_new (o := .lst (d0.map V.int ++ [.int (s.ls.length : Int)])) np3)
                have n11 := hw9.nw (gone t10 np3)
                generalize upd (upd H10 p2 (.lst [.int (s.ls.length : Int)])) p3 (.lst (d0.map V.int ++ [.int (s.ls.length : Int)])) = H11 at e11 t11
                refine ⟨_, rfl, 1, rfl, F, _, rfl, SqL.of (t11 _ _ hw9.eF), fun p4 np4 => ⟨_, rfl, L, _, rfl, .inl (SqL.of (same_new np4 _ _ (t11 _ _ hw9.eL))), _, _, rfl, rfl, _, _, rfl, ?_⟩⟩
                have t12 := t11.trans (same_new (o := .lst (cutV (s.lf.map V.int) (some 1) none)) np4)
                dsimp only
                rw [len1]
                refine ⟨doneS y .chn s, T, p3, p4, xs ++ [.ref Tl], _, _, _, _, _, rfl, hnx', hb2, ?_⟩
                have fin := hw9.go (ti := s.ti) (dn := d0 ++ [(s.ls.length : Int)]) (lf := s.lf.drop 1) (lk := some (s.ls.length : Int)) t12 ⟨hw9.nT, hw9.TL⟩ n11 (hw9.nw (gone t11 np4)).2 (t12 _ _ hw9.eT) (same_new np4 _ _ e11) (by
                  rw [upd_same]
                  show some (HO.lst (cutV (s.lf.map V.int) (some ((1 : Nat) : Int)) none)) = _
                  rw [c'])
                rw [← hd0] at fin
                exact fin
              | st j k' =>
                obtain ⟨sj, sk⟩ : j ≤ 3 ∧ k' ≤ 3 := qm
                refine LK.ifF rfl ⟨_, rfl, stiD (.st j k'), .str (Str.ofString "pass"), q3, .str _, sh_sti (.st j k'), shp, _, rfl, ?_⟩
                rw [eqp]
                refine LK.ifF rfl ⟨_, rfl, stiD (.st j k'), .str (Str.ofString "chain"), q3, .str _, sh_sti (.st j k'), shh, _, rfl, ?_⟩
                rw [eqh]
                refine LK.ifF rfl ?_
                have c := c1 s.lf j
                have c' := c2 s.lf j
                have xl : xs.length = s.ls.length := by rw [dps_len hw.dL, List.length_map]
                cases q3 with
                | @tup qa _ _ st3 d3 =>
                  cases d3 with
                  | cons e1 d3 =>
                    cases e1
                    cases d3 with
                    | cons e2 d3 =>
                      cases e2
                      cases d3
                      refine ⟨_, rfl, _, _, 1, _, rfl, rfl, st3, atI_nat (j := 1) rfl, (k' : Int), rfl, by omega, by omega, ?_⟩
                      refine for_range (lo := 0) (n := k') (fun m σ Hn => ∃ (D : Addr) (xs : List V) (o16 : Option V), σ = [some (.ref la), some (.ref fa), some (.ref na), some (.ref co), some (.int number), some (.str y), some (.ref sa), some (.ref L), some (.ref T), some (.ref D), some (.ref F), some (lkV s.lk), some (.int (0 + (i : Int))), some (.ref qa), some (.int (j : Int)), o15, o16] ∧ Tk H2 Hn ∧ Rwy K H Hn L T D F xs ⟨(knit y (srt (s.lf.take j)) m (s.ls, s.dn)).1, s.ti, (knit y (srt (s.lf.take j)) m (s.ls, s.dn)).2, s.lf, s.lk⟩)
                        ⟨D, xs, _, rfl, Tk.same (Same.refl _), hw⟩ (fun m σ H3 hm hI => ?_) (fun σ H3 hI => ?_)
                      · obtain ⟨D, xs, o16, rfl, sm3, hw⟩ := hI
                        have kl := knit_len y (srt (s.lf.take j)) m (s.ls, s.dn)
                        have kd := congrArg List.length (knit_dn y (srt (s.lf.take j)) m (s.ls, s.dn))
                        rw [List.length_append, List.length_map, List.length_range] at kd
                        dsimp only at kl kd
                        have xl : xs.length = s.ls.length + m := by
                          rw [dps_len hw.dL, List.length_map]
                          exact kl
                        refine ⟨_, rfl, .inl ⟨rfl, _, SqL.of hw.eL⟩, _, rfl, _, rfl, _, rfl, j, rfl, F, _, rfl, SqL.of hw.eF, fun p np => ?_⟩
                        have t1 := same_new (o := .lst (cutV (s.lf.map V.int) none (some (j : Int)))) np
                        refine ⟨p, s.lf.take j, rfl, SqL.of (by rw [← c]; exact upd_same), ?_, fun ns' Sp perm pw nSp => ?_⟩
                        · rw [List.length_take]
                          omega
                        have ens := srt_of perm pw
                        subst ens
                        generalize hH5 : upd H3 p (.lst (cutV (s.lf.map V.int) none (some (j : Int)))) = H5 at t1 nSp
                        have t6 := t1.trans (same_new (o := .lst ((srt (s.lf.take j)).map V.int)) nSp)
                        refine ⟨Sp, _, rfl, .inl ⟨SqL.of upd_same, fun Tp nTp => ⟨by show 2 ≤ sizeLine; decide, fun Tl nTl => ?_⟩⟩⟩
                        have t7 := t6.trans (same_new (o := .tup ((srt (s.lf.take j)).map V.int)) nTp)
                        have t8 := t7.trans (same_new (o := .tup [.str y, .ref Tp]) nTl)
                        have eTp := same_new (o := .tup [.str y, .ref Tp]) nTl _ _ (upd_same (H := upd H5 Sp (.lst ((srt (s.lf.take j)).map V.int))) (a := Tp) (o := .tup ((srt (s.lf.take j)).map V.int)))
                        have dl : Dp K _ (.ref Tl) (lpD (y, srt (s.lf.take j))) := .tup (.inl (.inl (upd_same (o := .tup [.str y, .ref Tp])))) (.cons (.str y) (.cons (.tup (.inl (.inl eTp)) (dp_ints_of _)) .nil))
                        have hw8 := hw.go t8 ⟨hw.nT, hw.TL⟩ ⟨hw.nD, hw.DL⟩ hw.FL (t8 _ _ hw.eT) (t8 _ _ hw.eD) (t8 _ _ hw.eF) (lk := s.lk)
                        refine ⟨L, xs, .ref Tl, rfl, rfl, hw8.eL, by omega, ?_⟩
                        have hw9 := hw8.app dl
                        have sm9 : Tk H2 (upd (upd (upd (upd H5 Sp (.lst ((srt (s.lf.take j)).map V.int))) Tp (.tup ((srt (s.lf.take j)).map V.int))) Tl (.tup [.str y, .ref Tp])) L (.lst (xs ++ [.ref Tl]))) := (sm3.trans (Tk.same t8)).trans (Tk.own hw8.eL)
                        generalize upd (upd (upd (upd H5 Sp (.lst ((srt (s.lf.take j)).map V.int))) Tp (.tup ((srt (s.lf.take j)).map V.int))) Tl (.tup [.str y, .ref Tp])) L (.lst (xs ++ [.ref Tl])) = H9 at hw9 sm9
                        have len1 : ((xs ++ [V.ref Tl]).length : Int) - 1 = ((knit y (srt (s.lf.take j)) m (s.ls, s.dn)).1.length : Int) := by
                          rw [List.length_append, List.length_singleton, xl, kl]
                          omega
                        refine ⟨_, rfl, _, rfl, L, _, rfl, .inl (SqL.of hw9.eL), _, _, rfl, rfl, by show 1 ≤ sizeLine; decide, fun p2 np2 => ?_⟩
                        dsimp only
                        rw [len1]
                        have t10 := same_new (o := .lst [.int ((knit y (srt (s.lf.take j)) m (s.ls, s.dn)).1.length : Int)]) np2
                        refine ⟨D, p2, _, _, rfl, rfl, t10 _ _ hw9.eD, upd_same, ?_, fun p3 np3 => ?_⟩
                        · rw [List.length_map]
                          simp only [List.length_cons, List.length_nil]
                          omega
                        have t11 := t10.trans (same_new (o := .lst ((knit y (srt (s.lf.take j)) m (s.ls, s.dn)).2.map V.int ++ [.int ((knit y (srt (s.lf.take j)) m (s.ls, s.dn)).1.length : Int)])) np3)
                        have n11 := hw9.nw (gone t10 np3)
                        refine ⟨p3, xs ++ [.ref Tl], _, rfl, sm9.trans (Tk.same t11), hw9.go (lk := s.lk) t11 ⟨hw9.nT, hw9.TL⟩ n11 hw9.FL (t11 _ _ hw9.eT) ?_ (t11 _ _ hw9.eF)⟩
                        rw [upd_same]
                        show _ = some (HO.lst (((knit y (srt (s.lf.take j)) m (s.ls, s.dn)).2 ++ [((knit y (srt (s.lf.take j)) m (s.ls, s.dn)).1.length : Int)]).map V.int))
                        rw [List.map_append]
                        rfl
                      · obtain ⟨D, xs, o16, rfl, sm3, hw⟩ := hI
                        refine ⟨_, rfl, _, _, 1, _, rfl, rfl, sqT_tk sm3 st3, atI_nat (j := 1) rfl, rfl, _, rfl, ?_⟩
                        by_cases z : k' = 0
                        · subst z
                          refine LK.ifT rfl ⟨_, rfl, _, rfl, _, rfl, j, rfl, F, _, rfl, SqL.of hw.eF, fun p np => ?_⟩
                          have t1 := same_new (o := .lst (cutV (s.lf.map V.int) none (some (j : Int)))) np
                          refine ⟨T, p, _, _, rfl, rfl, t1 _ _ hw.eT, upd_same, ?_, fun p2 np2 => ?_⟩
                          · have := cutV_length (s.lf.map V.int) none (some (j : Int))
                            rw [List.length_map] at this ⊢
                            show s.ti.length + (cutV (s.lf.map V.int) none (some (j : Int))).length ≤ sizeLine
                            omega
                          have t2 := t1.trans (same_new (o := .lst (s.ti.map V.int ++ cutV (s.lf.map V.int) none (some (j : Int)))) np2)
                          have n2 := hw.nw (gone t1 np2)
                          refine ⟨_, rfl, _, rfl, j, rfl, F, _, rfl, SqL.of (t2 _ _ hw.eF), fun p3 np3 => ⟨_, _, rfl, ?_⟩⟩
                          have t3 := t2.trans (same_new (o := .lst (cutV (s.lf.map V.int) (some (j : Int)) none)) np3)
                          have n3 := hw.nw (gone t2 np3)
                          refine ⟨doneS y (.st j 0) s, p2, D, p3, xs, _, _, _, _, _, rfl, hnx', hb2, hw.go t3 n2 ⟨hw.nD, hw.DL⟩ n3.2 ?_ (t3 _ _ hw.eD) ?_⟩
                          · have := same_new (o := .lst (cutV (s.lf.map V.int) (some (j : Int)) none)) np3 _ _ (upd_same (a := p2) (o := .lst (s.ti.map V.int ++ cutV (s.lf.map V.int) none (some (j : Int)))))
                            rw [this, c]
                            show _ = some (HO.lst ((if (0 : Nat) = 0 then s.ti ++ s.lf.take j else s.ti).map V.int))
                            rw [if_pos rfl, List.map_append]
                          · rw [upd_same, c']
                        · refine LK.ifF (by simpa using fun e : (k' : Int) = 0 => z (by omega)) ?_
                          refine ⟨_, rfl, _, rfl, j, rfl, F, _, rfl, SqL.of hw.eF, fun p3 np3 => ⟨_, _, rfl, ?_⟩⟩
                          have t3 := same_new (o := .lst (cutV (s.lf.map V.int) (some (j : Int)) none)) np3
                          have n3 := hw.nw np3
                          refine ⟨doneS y (.st j k') s, T, D, p3, xs, _, _, _, _, _, rfl, hnx', hb2, hw.go t3 ⟨hw.nT, hw.TL⟩ ⟨hw.nD, hw.DL⟩ n3.2 ?_ (t3 _ _ hw.eD) ?_⟩
                          · show _ = some (HO.lst ((if k' = 0 then s.ti ++ s.lf.take j else s.ti).map V.int))
                            rw [if_neg z]
                            exact t3 _ _ hw.eT
                          · rw [upd_same, c']
            · obtain ⟨s, T, D, F, xs, o12, o13, o14, o15, o16, rfl, hrow, hb, hw⟩ := hI
              rw [ql, List.take_length] at hrow
              have hD : rowD y qs st = if s.lf = [] then some (s.ls, s.ti, s.dn) else none := by
                unfold rowD
                rw [hrow]
              refine ⟨_, rfl, by show 0 ≤ sizeLine; decide, fun p np => ?_⟩
              have t1 := same_new (o := .lst []) np
              refine ⟨.list (s.lf.map PyData.int), .list [], .lst (SqL.of (t1 _ _ hw.eF)) (dp_ints_of _), .lst (SqL.of upd_same) .nil, sh_ints _, sh_ints [], _, rfl, ?_⟩
              rw [eqv_nili]
              by_cases e : s.lf = []
              · refine LK.ifT (by rw [e]; rfl) ⟨_, rfl, _, rfl, _, rfl, by show 3 ≤ sizeLine; decide, fun t nt => k _ _ (hw.sm.trans (t1.trans (same_new nt))) (fun st' e' => ?_) (fun e' => ?_)⟩
                · rw [hD, if_pos e] at e'
                  cases e'
                  have t2 := t1.trans (same_new (o := .tup [.ref L, .ref T, .ref D]) nt)
                  exact ⟨t, L, T, D, xs, rfl, hw.nL, hw.nT, hw.nD, upd_same, t2 _ _ hw.eL, dps_same t2 hw.dL, t2 _ _ hw.eT, t2 _ _ hw.eD⟩
                · rw [hD, if_pos e] at e'
                  cases e'
              · refine LK.ifF (by simpa using e) ⟨_, rfl, _, rfl, F, _, rfl, .inl (SqL.of (t1 _ _ hw.eF)), by show 2 ≤ sizeLine; decide, fun p2 np2 => ⟨by show 2 ≤ sizeLine; decide, fun t nt => k _ _ (hw.sm.trans (t1.trans ((same_new np2).trans (same_new nt)))) (fun st' e' => ?_) (fun _ => ⟨t, _, _, rfl, upd_same⟩)⟩⟩
                rw [hD, if_neg e] at e'
                cases e'
end
end B7
/-! _law_work_done answers workD. -/
namespace B7
open PySem PySem.Spec PyProof.Rows L2 LK MXo
abbrev sWork : Stmt := top 46
theorem scWork : FnScope ["yarn", "size", "courses", "k", "state"] ["yarn", "size", "courses"] (defScope sWork) := ⟨rfl, rfl, rfl, by decide +kernel, rfl, by decide +kernel, by decide +kernel⟩
def couD (c : Str × List Sti) : PyData := cou c.1 c.2
theorem Told3.old {K : PySem.W.Frag} {H0 H1 H : Hp} {v : V} {st : St3} (s : Same H0 H1) (h : Told3 K H1 H v st) : Told3 K H0 H v st := by
  obtain ⟨t, L, T, D, xs, rfl, a, b, c, r⟩ := h
  exact ⟨t, L, T, D, xs, rfl, gone s a, gone s b, gone s c, r⟩
def small3 (st : St3) : Prop := st.1.length ≤ 10000 ∧ st.2.1.length ≤ 10000 ∧ st.2.2.length ≤ 10000
def spWork (K : PySem.W.Frag) : Sp := fun vs H Q _ => ∃ (y0 : Str) (n : Nat) (ca : Addr) (cxs : List V) (cs : List (Str × List Sti)), vs = [.str y0, .int n, .ref ca] ∧ SqL K H ca cxs ∧ DpAll K H cxs (cs.map couD) ∧ n ≤ 1000 ∧ cs.length ≤ 1000 ∧ (∀ c ∈ cs, c.2.length ≤ 1000 ∧ ∀ q ∈ c.2, smallQ q) ∧ (∀ k st', workD (cs.take k) (laid y0 n) = some st' → small3 st') ∧
  ∀ (v : V) (H' : Hp), Same H H' → (∀ st', workD cs (laid y0 n) = some st' → Told3 K H H' v st') → (workD cs (laid y0 n) = none → ∃ t a b, v = .ref t ∧ H' t = some (.tup [a, b])) → Q v H'
theorem workD_succ {cs : List (Str × List Sti)} {i : Nat} {c : Str × List Sti} {st st' : St3} (h : workD (cs.take i) st = some st') (hc : cs[i]? = some c) : workD (cs.take (i + 1)) st = rowD c.1 c.2 st' := by
  rw [List.take_add_one, hc, Option.toList_some, workD_app, h]
  show (rowD c.1 c.2 st').bind (workD []) = rowD c.1 c.2 st'
  cases rowD c.1 c.2 st' <;> rfl
theorem workD_fail {cs : List (Str × List Sti)} {i : Nat} {st : St3} (h : workD (cs.take i) st = none) : workD cs st = none := by
  rw [← List.take_append_drop i cs, workD_app, h]
  rfl
section
variable {P : Program} {w : World} {K : PySem.W.Frag} {mg : Str → Option Value} {base : Heap}
theorem ok_work {f fr : Addr} {fd fdr : FuncData} (F : Fun K "_law_work_done" "_law_work_done" sWork f fd) (Fr : Fun K "_law_row_done" "_law_row_done" sRow fr fdr) (B : Bl mg) (gr : mg "_law_row_done" = some (.ref fr)) (br : Binds K fdr ["loops_here", "fast_here", "needle_here", "course", "number"] []) (Gr : FnOk P w K mg base CX0 1 fr fdr ["loops_here", "fast_here", "needle_here", "course", "number"] (spRow K)) :
    FnOk P w K mg base CX0 2 f fd ["yarn", "size", "courses"] (spWork K) := by
  refine F.ok scWork (fun vs H Q E h => ?_) (fun cdv A outer s H vs Q E hr h => ?_)
  · obtain ⟨y0, n, ca, _, _, rfl, _⟩ := h
    rfl
  · obtain ⟨y0, n, ca, cxs, cs, rfl, hc, dc, n0, l0, sq, bd, k⟩ := h
    refine ⟨_, pss_cons (ps_set (i := 4) scWork.nd rfl (Or.inl rfl) (pe_tup (pa_cons (pe_lc (own := [("k", 3)]) (g := gName 3) (tt := tYes) rfl scWork.nd (pi_range1 (by rfl) (B "range" (by decide)) (pa_cons (pv 1) pa_nil)) (blkOk_by (N := ["yarn", "size", "courses", "k", "state"]) (sc := defScope sWork) (by decide +kernel)) (fun _ _ _ _ _ => pg_name (i := 3) scWork.nd rfl (Or.inl rfl)) (fun _ _ _ _ _ => pts_nil) (fun _ _ _ _ _ => pe_tup (pa_cons (pv 0) (pa_cons (pe_tup pa_nil) pa_nil)))) (pa_cons (pe_lst pa_nil) (pa_cons (pe_listRg rfl (by rfl) (B "list" (by decide)) (prg_1 (by rfl) (B "range" (by decide)) (pv 1))) pa_nil)))))
      (pss_cons (ps_for PassesOwn.never rfl (pi_range1 (by rfl) (B "range" (by decide)) (pa_cons (pe_callB call_len_seq (by rfl) (B "len" (by decide)) (by decide +kernel) (pa_cons (pv 2) pa_nil)) pa_nil)) (pg_name (i := 3) scWork.nd rfl (Or.inl rfl)) (pss_cons (ps_set (i := 4) scWork.nd rfl (Or.inl rfl) (pe_call (E := E0) Gr (hr.mono (by decide)) rfl gr Fr.kp br .nil pass0 (pa_cons (pe_ix (ixt (K := K)) (pv 4) pe_int (fun _ _ => rfl)) (pa_cons (pe_ix (ixt (K := K)) (pv 4) pe_int (fun _ _ => rfl)) (pa_cons (pe_ix (ixt (K := K)) (pv 4) pe_int (fun _ _ => rfl)) (pa_cons (pe_ix ix_list (pv 2) (pv 3) (fun _ _ => rfl)) (pa_cons (pv 3) pa_nil)))))))
      (pss_one (ps_if (pt_cmpR op_eq (pe_callB call_len_seq (by rfl) (B "len" (by decide)) (by decide +kernel) (pa_cons (pv 4) pa_nil)) pe_int (nomark _)) (pss_one (ps_ret (pv 4))) pss_nil))))
      (pss_one (ps_ret (pv 4)))), ?_⟩
    have cl := dps_len dc
    rw [List.length_map] at cl
    have ty2 : sizeLine = 16777216 := sizeLine_eq
    refine ⟨_, rfl, (n : Int), rfl, by omega, by omega, fun L nL => ?_⟩
    refine lc_range (lo := 0) (n := n) (fun j H' => ∃ xs, Same H H' ∧ H' L = some (.lst xs) ∧ DpAll K H' xs ((List.replicate j (y0, ([] : List Int))).map lpD)) ⟨[], same_new nL, upd_same, .nil⟩ (fun j H' hj hh => ⟨rfl, ?_⟩) (fun H' hh => ?_)
    · obtain ⟨xs, s1, eL, dL⟩ := hh
      refine ⟨_, rfl, by show 0 ≤ sizeLine; decide, fun e ne => ⟨by show 2 ≤ sizeLine; decide, fun t nt => ?_⟩⟩
      have t1 := same_new (o := .tup []) ne
      have t2 := t1.trans (same_new (o := .tup [.str y0, .ref e]) nt)
      have xl := dps_len dL
      rw [List.length_map, List.length_replicate] at xl
      have np : ∀ {b : Addr} {o : HO}, H b = some o → b ≠ L := fun e => ne_of_none e nL
      refine ⟨xs, t2 _ _ eL, by omega, xs ++ [.ref t], fun b o e' => ?_, upd_same, ?_⟩
      · rw [upd_ne (np e')]
        exact t2 _ _ (s1 _ _ e')
      · rw [List.replicate_succ', List.map_append]
        have e2 := t2 _ _ eL
        refine dps_app (lps_tk (Tk.own e2) (dps_same t2 dL)) (.cons (lp_tk (Tk.own e2) (l := (y0, [])) ?_) .nil)
        exact .tup (.inl (.inl upd_same)) (.cons (.str y0) (.cons (.tup (.inl (.inl (same_new nt _ _ upd_same))) .nil) .nil))
    · obtain ⟨xs, s1, eL, dL⟩ := hh
      refine ⟨by show 0 ≤ sizeLine; decide, fun T nT => ⟨_, rfl, (n : Int), rfl, RgOk.of_le (by omega) (by omega) (by omega) (by omega), fun D nD => ⟨by show 3 ≤ sizeLine; decide, fun t nt => ?_⟩⟩⟩
      have t1 := same_new (o := .lst []) nT
      have t2 := t1.trans (same_new (o := .lst (rgV 0 (n : Int))) nD)
      have t3 := t2.trans (same_new (o := .tup [.ref L, .ref T, .ref D]) nt)
      have st0 : Told3 K H (upd (upd (upd H' T (.lst [])) D (.lst (rgV 0 (n : Int)))) t (.tup [.ref L, .ref T, .ref D])) (.ref t) (laid y0 n) := by
        refine ⟨t, L, T, D, xs, rfl, nL, gone s1 nT, gone (s1.trans t1) nD, upd_same, t3 _ _ eL, dps_same t3 dL, ?_, ?_⟩
        · exact same_new nt _ _ (same_new nD _ _ upd_same)
        · rw [same_new nt _ _ (upd_same (a := D) (o := .lst (rgV 0 (n : Int))))]
          show some (HO.lst (rgV 0 (n : Int))) = some (HO.lst (((List.range n).map fun i : Nat => (i : Int)).map V.int))
          unfold rgV
          rw [List.map_map, show ((n : Int) - 0).toNat = n by omega]
          congr 2
          refine List.map_congr_left fun i _ => ?_
          show V.int (0 + (i : Int)) = V.int (i : Int)
          rw [Int.zero_add]
      have s3 := s1.trans t3
      refine ⟨_, rfl, ca, cxs, rfl, .inl (s3.seq hc), _, rfl, by omega, by omega, ?_⟩
      refine for_range (lo := 0) (n := cxs.length) (fun i σ Hn => ∃ (st' : St3) (v : V) (o3 : Option V), σ = [some (.str y0), some (.int n), some (.ref ca), o3, some v] ∧ workD (cs.take i) (laid y0 n) = some st' ∧ Same H Hn ∧ Told3 K H Hn v st')
        ⟨laid y0 n, _, _, rfl, rfl, s3, st0⟩ (fun i σ H2 hi hI => ?_) (fun σ H2 hI => ?_)
      · obtain ⟨st', v, o3, rfl, hw, s4, told⟩ := hI
        obtain ⟨t, L, T, D, xs, rfl, nL, nT, nD, et, eL, dL, eT, eD⟩ := told
        obtain ⟨vc, dc', q1, q2, q3⟩ := dps_at (dps_same s4 dc) (i := i) (by rw [List.length_map]; omega)
        rw [List.getElem?_map] at q2
        obtain ⟨c, hcc, rfl⟩ := Option.map_eq_some_iff.mp q2
        have cm := sq c (List.mem_of_getElem? hcc)
        have bb := bd i st' hw
        have nxt := workD_succ hw hcc
        have q3' := q3
        cases q3 with
        | @tup co _ _ sco dco =>
          refine ⟨_, rfl, t, _, 0, _, rfl, rfl, SqT.of et, atI_nat (j := 0) rfl, _, rfl, t, _, 1, _, rfl, rfl, SqT.of et, atI_nat (j := 1) rfl, _, rfl, t, _, 2, _, rfl, rfl, SqT.of et, atI_nat (j := 2) rfl, _, rfl, _, rfl, ca, cxs, _, _, rfl, rfl, s4.seq hc, by rw [Int.zero_add]; exact atI_nat q1, _, rfl, ?_⟩
          refine ⟨L, T, D, co, _, xs, st', c.1, c.2, rfl, SqL.of eL, dL, SqL.of eT, SqL.of eD, q3', bb.1, bb.2.1, bb.2.2, cm.1, cm.2, fun v H3 s5 yes no => ?_⟩
          cases hr2 : rowD c.1 c.2 st' with
          | some st2 =>
            obtain ⟨t2, L2, T2, D2, xs2, rfl, told2⟩ := yes st2 hr2
            refine ⟨_, rfl, t2, _, rfl, .inr (SqT.of told2.2.2.2.1), rfl, _, rfl, LK.ifF rfl ⟨st2, _, _, rfl, nxt.trans hr2, s4.trans s5, Told3.old s4 ⟨t2, L2, T2, D2, xs2, rfl, told2⟩⟩⟩
          | none =>
            obtain ⟨t2, a2, b2, rfl, e2⟩ := no hr2
            refine ⟨_, rfl, t2, _, rfl, .inr (SqT.of e2), rfl, _, rfl, LK.ifT rfl ⟨_, rfl, k _ _ (s4.trans s5) (fun st3 e => ?_) (fun _ => ⟨t2, a2, b2, rfl, e2⟩)⟩⟩
            rw [workD_fail (nxt.trans hr2)] at e
            cases e
      · obtain ⟨st', v, o3, rfl, hw, s4, told⟩ := hI
        rw [cl, List.take_length] at hw
        refine ⟨_, rfl, k _ _ s4 (fun st2 e => ?_) (fun e => ?_)⟩
        · rw [hw] at e
          cases e
          exact told
        · rw [hw] at e
          cases e
end
end B7
/-! _law_drawn_row: what is drawn for a row. -/
namespace B7
open PySem PySem.Spec PyProof.Rows L2 LK MXo
abbrev sDRow : Stmt := top 47
theorem scDRow : FnScope ["creel", "count", "yarns", "finite", "found", "left", "turn", "many", "way"] ["creel", "count", "yarns", "finite"] (defScope sDRow) := ⟨rfl, rfl, rfl, by decide +kernel, rfl, by decide +kernel, by decide +kernel⟩
theorem stJ {t : TS} {D : Ends} {σ : St} {H : Hp} (R : St → Hp → Prop) (h : ∀ D' : Ends, (∀ σ' H', R σ' H' → D'.nx σ' H') → t D' σ H) (q : ∀ σ' H', R σ' H' → D.nx σ' H') : t D σ H := h D q
theorem if3J {t1 t2 t3 : TT} {a b c e : TS} {D : Ends} {σ : St} {H : Hp} (R : Hp → Prop) (hb : ∀ Hn, R Hn → e D σ Hn) (h : (∀ Hn, R Hn → e D σ Hn) → tIfS t1 a (tIfS t2 b (tIfS t3 c e)) D σ H) : tIfS t1 a (tIfS t2 b (tIfS t3 c e)) D σ H := h hb
theorem exK2 {te : TE} {σ : St} {H : Hp} {Q : VK} (R : V → Hp → Prop) (h : ∀ Q' : VK, (∀ x H', R x H' → Q' x H') → te σ H Q') (q : ∀ x H', R x H' → Q x H') : te σ H Q := h Q q
theorem sti_of {K : PySem.W.Frag} {H : Hp} {t : Addr} (j k : Nat) {a b : Int} (ha : a = j) (hb : b = k) (h : H t = some (.tup [.int a, .int b])) : Dp K H (.ref t) (stiD (.st j k)) := by
  subst ha hb
  exact .tup (SqT.of h) (.cons (.int _) (.cons (.int _) .nil))
theorem dps_rep {K : PySem.W.Frag} {H : Hp} {x : V} {q : Sti} (h : Dp K H x (stiD q)) : ∀ n : Nat, DpAll K H (List.replicate n [x]).flatten ((List.replicate n q).map stiD)
  | 0 => .nil
  | n + 1 => .cons h (dps_rep h n)
theorem sti_tk {K : PySem.W.Frag} {H H' : Hp} (e : Tk H H') {x : V} {q : Sti} (h : Dp K H x (stiD q)) : Dp K H' x (stiD q) := by
  cases q with
  | pas => cases h; exact .str _
  | crs => cases h; exact .str _
  | chn => cases h; exact .str _
  | st j k =>
    cases h with
    | tup s d => exact .tup (sqT_tk e s) (dp_tk_ints (ns := [(j : Int), (k : Int)]) d)
theorem stis_tk {K : PySem.W.Frag} {H H' : Hp} (e : Tk H H') : ∀ {xs : List V} {qs : List Sti}, DpAll K H xs (qs.map stiD) → DpAll K H' xs (qs.map stiD)
  | _, [], .nil => .nil
  | _, _ :: _, .cons a r => .cons (sti_tk e a) (stis_tk e r)
theorem cou_tk {K : PySem.W.Frag} {H H' : Hp} (e : Tk H H') {x : V} {y : Str} {qs : List Sti} (h : Dp K H x (cou y qs)) : Dp K H' x (cou y qs) := by
  cases h with
  | tup s d =>
    cases d with
    | cons d1 d =>
      cases d1
      cases d with
      | cons d2 d =>
        cases d
        cases d2 with
        | tup s2 d2 => exact .tup (sqT_tk e s) (.cons (.str _) (.cons (.tup (sqT_tk e s2) (stis_tk e d2)) .nil))
/-- stitches under way: the list at G -/
structure Qw (K : PySem.W.Frag) (H Hn : Hp) (c G : Addr) (B : Nat) (qs : List Sti) (xs : List V) : Prop where
  ne : c ≠ G
  cr : CR Hn c B
  bt : Bt c H Hn
  eG : Hn G = some (.lst xs)
  dG : DpAll K Hn xs (qs.map stiD)
  nG : H G = none
  sm : ∀ q ∈ qs, smallQ q
theorem Qw.call {K : PySem.W.Frag} {H Hn H' : Hp} {c G : Addr} {B : Nat} {qs : List Sti} {xs : List V} (h : Qw K H Hn c G B qs xs) (h1 : CR H' c (B + 1)) (bt : Bt c Hn H') : Qw K H H' c G (B + 1) qs xs :=
  ⟨h.ne, h1, h.bt.trans bt, bt _ _ h.ne.symm h.eG, stis_tk (Tk.bt h.cr bt) h.dG, h.nG, h.sm⟩
theorem Qw.new {K : PySem.W.Frag} {H Hn : Hp} {c G p : Addr} {B : Nat} {qs : List Sti} {xs : List V} {o : HO} (h : Qw K H Hn c G B qs xs) (np : Hn p = none) : Qw K H (upd Hn p o) c G B qs xs :=
  ⟨h.ne, h.cr.same (same_new np), h.bt.trans (Bt.of (same_new np)), same_new np _ _ h.eG, stis_tk (Tk.same (same_new np)) h.dG, h.nG, h.sm⟩
theorem Qw.mono {K : PySem.W.Frag} {H Hn : Hp} {c G : Addr} {B B' : Nat} {qs : List Sti} {xs : List V} (h : Qw K H Hn c G B qs xs) (l : B ≤ B') : Qw K H Hn c G B' qs xs := ⟨h.ne, h.cr.mono l, h.bt, h.eG, h.dG, h.nG, h.sm⟩
theorem Qw.app {K : PySem.W.Frag} {H Hn : Hp} {c G : Addr} {B : Nat} {qs : List Sti} {xs : List V} {x : V} {q : Sti} (h : Qw K H Hn c G B qs xs) (d : Dp K Hn x (stiD q)) (s : smallQ q) : Qw K H (upd Hn G (.lst (xs ++ [x]))) c G B (qs ++ [q]) (xs ++ [x]) :=
  ⟨h.ne, h.cr.upd h.ne.symm, fun b u n e => by rw [upd_ne (ne_of_none e h.nG)]; exact h.bt b u n e, upd_same, by
    rw [List.map_append]
    exact dps_app (stis_tk (Tk.own h.eG) h.dG) (.cons (sti_tk (Tk.own h.eG) d) .nil), h.nG, fun q' hq => by
    rcases List.mem_append.mp hq with hq | hq
    · exact h.sm q' hq
    · rw [List.mem_singleton.mp hq]
      exact s⟩
def spDRow (K : PySem.W.Frag) : Sp := fun vs H Q _ => ∃ (c ya : Addr) (n B : Nat) (ys : List Str) (fin : Bool), vs = [.ref c, .int n, .ref ya, .bl fin] ∧ n ≤ 100 ∧ CR H c B ∧ B + 3000 < 10 ^ 12 ∧ Ys H ya ys ∧ ys ≠ [] ∧ ys.length ≤ 1000 ∧
  ∀ (t : V) (H' : Hp) (y : Str) (qs : List Sti), Dp K H' t (cou y qs) → CR H' c (B + 3000) → Bt c H H' → y ∈ ys → qs.length ≤ 1000 → (∀ q ∈ qs, smallQ q) → Q t H'
section
variable {P : Program} {w : World} {K : PySem.W.Frag} {mg : Str → Option Value} {base : Heap}
theorem ok_drow {f fp : Addr} {fd fdp : FuncData} (F : Fun K "_law_drawn_row" "_law_drawn_row" sDRow f fd) (Fp : Fun K "_law_ply" "_law_ply" sPly fp fdp) (B : Bl mg) (gp : mg "_law_ply" = some (.ref fp)) (bp : Binds K fdp ["creel", "span"] []) (Gp : FnOk P w K mg base CX0 1 fp fdp ["creel", "span"] spPly) :
    FnOk P w K mg base CX0 2 f fd ["creel", "count", "yarns", "finite"] (spDRow K) := by
  refine F.ok scDRow (fun vs H Q E h => ?_) (fun cdv A outer s H vs Q E hr h => ?_)
  · obtain ⟨c, ya, n, bb, ys, fin, rfl, _⟩ := h
    rfl
  · obtain ⟨c, ya, n, bb, ys, fin, rfl, hn, hc, hB, hy, hne, hyl, k⟩ := h
    refine ⟨_, pss_cons (ps_par (i := 4) (j := 5) rfl scDRow.nd rfl rfl (by decide) rfl rfl (pa_cons (pe_lst pa_nil) (pa_cons (pv 1) pa_nil)) (by rfl))
      (pss_cons (ps_for PassesOwn.never rfl (pi_range1 (by rfl) (B "range" (by decide)) (pa_cons (pe_op op_mul pe_int (pv 1)) pa_nil)) (pg_name (i := 6) scDRow.nd rfl (Or.inl rfl)) (pss_cons (ps_if (pt_cmpR op_eq (pv 5) pe_int (nomark _)) (pss_one ps_break) pss_nil)
      (pss_cons (ps_set (i := 7) scDRow.nd rfl (Or.inl rfl) (pe_ifExp (pt_cmpR op_eq (pe_call (E := E0) Gp (hr.mono (by decide)) rfl gp Fp.kp bp .nil pass0 (pa_cons (pv 0) (pa_cons pe_int pa_nil))) pe_int (nomark _)) (pe_callB (call_min2 rfl) (by rfl) (B "min" (by decide)) (by decide +kernel) (pa_cons (pv 5) (pa_cons (pe_op op_add pe_int (pe_call (E := E0) Gp (hr.mono (by decide)) rfl gp Fp.kp bp .nil pass0 (pa_cons (pv 0) (pa_cons pe_int pa_nil)))) pa_nil))) pe_int))
      (pss_cons (ps_set (i := 8) scDRow.nd rfl (Or.inl rfl) (pe_call (E := E0) Gp (hr.mono (by decide)) rfl gp Fp.kp bp .nil pass0 (pa_cons (pv 0) (pa_cons pe_int pa_nil))))
      (pss_one (ps_if (PW.pt (pw_and (pt_val (pv 3)) (pw_and1 (pt_cmpR op_eq (pv 8) pe_int (nomark _))))) (pss_cons (ps_expr (pe_bm PySem.F.plainAttrs_list PySem.F.slot_list_append PySem.F.type_list_append mt_append (pv 4) (pa_cons (pe_ix ix_list (pe_lst (pa_cons pe_str (pa_cons pe_str pa_nil))) (pe_call (E := E0) Gp (hr.mono (by decide)) rfl gp Fp.kp bp .nil pass0 (pa_cons (pv 0) (pa_cons pe_int pa_nil))) (fun _ _ => rfl)) pa_nil)))
      (pss_one (ps_set (i := 5) scDRow.nd rfl (Or.inl rfl) (pe_op op_sub (pv 5) pe_int)))) (pss_one (ps_if (PW.pt (pw_and (pt_val (pv 3)) (pw_and (pt_cmpR op_eq (pv 8) pe_int (nomark _)) (pw_and1 (pt_cmpR op_gt (pv 5) pe_int (nomark _)))))) (pss_one (ps_expr (pe_bm PySem.F.plainAttrs_list PySem.F.slot_list_append PySem.F.type_list_append mt_append (pv 4) (pa_cons pe_str pa_nil)))) (pss_one (ps_if (PW.pt (pw_and (pt_val (pv 3)) (pw_and (pt_cmpR op_eq (pv 8) pe_int (nomark _)) (pw_and1 (pt_cmpR op_eq (pe_call (E := E0) Gp (hr.mono (by decide)) rfl gp Fp.kp bp .nil pass0 (pa_cons (pv 0) (pa_cons pe_int pa_nil))) pe_int (nomark _)))))) (pss_cons (ps_expr (pe_bm PySem.F.plainAttrs_list PySem.F.slot_list_append PySem.F.type_list_append mt_append (pv 4) (pa_cons (pe_tup (pa_cons (pv 7) (pa_cons pe_int pa_nil))) pa_nil)))
      (pss_one (ps_set (i := 5) scDRow.nd rfl (Or.inl rfl) (pe_op op_sub (pv 5) (pv 7))))) (pss_one (ps_if (pt_cmpR op_eq (pv 8) pe_int (nomark _)) (pss_one (ps_expr (pe_bm PySem.F.plainAttrs_list PySem.F.slot_list_append PySem.F.type_list_append mt_append (pv 4) (pa_cons (pe_tup (pa_cons pe_int (pa_cons (pe_op op_add pe_int (pe_call (E := E0) Gp (hr.mono (by decide)) rfl gp Fp.kp bp .nil pass0 (pa_cons (pv 0) (pa_cons pe_int pa_nil)))) pa_nil))) pa_nil)))) (pss_cons (ps_expr (pe_bm PySem.F.plainAttrs_list PySem.F.slot_list_append PySem.F.type_list_append mt_append (pv 4) (pa_cons (pe_tup (pa_cons (pv 7) (pa_cons (pe_ifExp (pt_cmpR op_eq (pe_call (E := E0) Gp (hr.mono (by decide)) rfl gp Fp.kp bp .nil pass0 (pa_cons (pv 0) (pa_cons pe_int pa_nil))) pe_int (nomark _)) (pe_op op_add pe_int (pe_call (E := E0) Gp (hr.mono (by decide)) rfl gp Fp.kp bp .nil pass0 (pa_cons (pv 0) (pa_cons pe_int pa_nil)))) pe_int) pa_nil))) pa_nil)))
      (pss_one (ps_set (i := 5) scDRow.nd rfl (Or.inl rfl) (pe_op op_sub (pv 5) (pv 7)))))))))))))))))
      (pss_cons (ps_if (PW.pt (pw_and (pt_cmpR op_eq (pv 1) pe_int (nomark _)) (pw_and1 (pt_cmpR op_eq (pe_call (E := E0) Gp (hr.mono (by decide)) rfl gp Fp.kp bp .nil pass0 (pa_cons (pv 0) (pa_cons pe_int pa_nil))) pe_int (nomark _))))) (pss_one (ps_expr (pe_bm PySem.F.plainAttrs_list PySem.F.slot_list_append PySem.F.type_list_append mt_append (pv 4) (pa_cons (pe_tup (pa_cons pe_int (pa_cons (pe_op op_add pe_int (pe_call (E := E0) Gp (hr.mono (by decide)) rfl gp Fp.kp bp .nil pass0 (pa_cons (pv 0) (pa_cons pe_int pa_nil)))) pa_nil))) pa_nil)))) pss_nil)
      (pss_one (ps_ret (pe_tup (pa_cons (pe_ix ix_list (pv 2) (pe_call (E := E0) Gp (hr.mono (by decide)) rfl gp Fp.kp bp .nil pass0 (pa_cons (pv 0) (pa_cons (pe_callB call_len_seq (by rfl) (B "len" (by decide)) (by decide +kernel) (pa_cons (pv 2) pa_nil)) pa_nil))) (fun _ _ => rfl)) (pa_cons (pe_callTy call_tuple_of (by rfl) (B "tuple" (by decide)) (by decide +kernel) (pa_cons (pe_op op_cat (pv 4) (pe_op op_rep (pe_lst (pa_cons (pe_tup (pa_cons pe_int (pa_cons pe_int pa_nil))) pa_nil)) (pv 5))) pa_nil)) pa_nil))))))), ?_⟩
    have cy : ya ≠ c := by
      intro e
      subst e
      obtain ⟨_, _, _, e, _⟩ := hc
      rw [Ys, e] at hy
      cases ys with
      | nil => exact hne rfl
      | cons a r => simp at hy
    have ty2 : sizeLine = 16777216 := sizeLine_eq
    refine ⟨by show 0 ≤ sizeLine; decide, fun G nG => ⟨_, rfl, _, _, rfl, ?_⟩⟩
    have cG : c ≠ G := hc.fresh nG
    have w0 : Qw K H (upd H G (.lst [])) c G bb [] [] := ⟨cG, hc.upd cG.symm, Bt.of (same_new nG), upd_same, .nil, nG, fun q h => absurd h List.not_mem_nil⟩
    dsimp only [tSeq]
    refine stJ (fun σ Hn => ∃ (qs : List Sti) (xs : List V) (left : Int) (o6 o7 o8 : Option V), σ = [some (.ref c), some (.int n), some (.ref ya), some (.bl fin), some (.ref G), some (.int left), o6, o7, o8] ∧ 0 ≤ left ∧ left ≤ n ∧ qs.length ≤ 2 * n ∧ Qw K H Hn c G (bb + 12 * n) qs xs) (fun D' aft => ?_) ?_
    · refine ⟨_, rfl, _, _, rfl, rfl, .inl ⟨by decide, by omega⟩, _, rfl, by omega, by omega, ?_⟩
      refine for_range (lo := 0) (n := 2 * n) (fun i σ Hn => ∃ (qs : List Sti) (xs : List V) (left : Int) (o6 o7 o8 : Option V), σ = [some (.ref c), some (.int n), some (.ref ya), some (.bl fin), some (.ref G), some (.int left), o6, o7, o8] ∧ 0 ≤ left ∧ left ≤ n ∧ qs.length ≤ i ∧ Qw K H Hn c G (bb + 6 * i) qs xs)
        ⟨[], [], n, _, _, _, rfl, by omega, by omega, Nat.zero_le _, w0⟩ (fun i σ H2 hi hI => ?_) (fun σ H2 hI => ?_)
      · obtain ⟨qs, xs, left, o6, o7, o8, rfl, l0, l1, ql, hq⟩ := hI
        refine ⟨_, rfl, rfl, _, rfl, ?_⟩
        by_cases l00 : left = 0
        · subst l00
          exact LK.ifT rfl (aft _ _ ⟨qs, xs, 0, _, _, _, rfl, by omega, by omega, by omega, hq.mono (by omega)⟩)
        refine LK.ifF (by simpa using l00) ?_
        have xl : xs.length = qs.length := by rw [dps_len hq.dG, List.length_map]
        dsimp only [tNext, tSeq, tAsg]
        refine exK2 (fun x H' => ∃ m : Nat, x = .int (m : Int) ∧ m ≤ 3 ∧ (m : Int) ≤ left ∧ Qw K H H' c G (bb + 6 * i + 2) qs xs) (fun Q' q' => ?_) ?_
        · refine ⟨_, rfl, c, 3, _, rfl, by decide, by decide, hq.cr, by omega, fun d1 H3 d10 d11 h3 b3 n3 => ⟨rfl, _, rfl, ?_⟩⟩
          have hq1 := hq.call h3 b3
          by_cases z : d1 = 0
          · subst z
            refine LK.ifT rfl ⟨_, rfl, _, rfl, c, 3, _, rfl, by decide, by decide, hq1.cr, by omega, fun d2 H4 d20 d21 h4 b4 n4 => ⟨_, _, rfl, rfl, _, _, rfl, ?_⟩⟩
            have hq2 := hq1.call h4 b4
            obtain ⟨mm, hmm, m0, m1, m2⟩ : ∃ mm : Int, (if 1 + d2 < left then 1 + d2 else left) = mm ∧ 0 ≤ mm ∧ mm ≤ 3 ∧ mm ≤ left := ⟨_, rfl, by split <;> omega, by split <;> omega, by split <;> omega⟩
            rw [hmm]
            exact q' _ _ ⟨mm.toNat, by rw [Int.toNat_of_nonneg m0], by omega, by omega, hq2⟩
          · exact LK.ifF (by simpa using z) (q' _ _ ⟨1, rfl, by omega, by omega, hq1.mono (by omega)⟩)
        rintro x H3 ⟨m, rfl, m1, m2, hq2⟩
        refine ⟨_, rfl, c, 9, _, rfl, by decide, by decide, hq2.cr, by omega, fun way H4 w0 w1 h4 b4 n4 => ?_⟩
        have hq3 := hq2.call h4 b4
        dsimp only [gName]
        have nx : ∀ (qs' : List Sti) (xs' : List V) (l' : Int) (Hn : Hp) (o6 o7 o8 : Option V), 0 ≤ l' → l' ≤ left → qs'.length ≤ i + 1 → Qw K H Hn c G (bb + 6 * (i + 1)) qs' xs' → ∃ (qs : List Sti) (xs : List V) (left : Int) (o6' o7' o8' : Option V), [some (.ref c), some (.int n), some (.ref ya), some (.bl fin), some (.ref G), some (.int l'), o6, o7, o8] = [some (.ref c), some (.int n), some (.ref ya), some (.bl fin), some (.ref G), some (.int left), o6', o7', o8'] ∧ 0 ≤ left ∧ left ≤ n ∧ qs.length ≤ i + 1 ∧ Qw K H Hn c G (bb + 6 * (i + 1)) qs xs := fun qs' xs' l' Hn o6 o7 o8 a b d e => ⟨qs', xs', l', o6, o7, o8, rfl, a, by omega, d, e⟩
        have qa : ∀ q : Sti, (qs ++ [q]).length ≤ i + 1 := fun q => by rw [List.length_append, List.length_singleton]; omega
        refine if3J (fun Hn => Qw K H Hn c G (bb + 6 * i + 4) qs xs) (fun Hn hq4 => ?_) (fun last => ?_)
        · refine ⟨_, rfl, rfl, _, rfl, ?_⟩
          by_cases w3 : way = 3
          · subst w3
            refine LK.ifT rfl ?_
            refine ⟨_, rfl, .inl ⟨rfl, _, SqL.of hq4.eG⟩, _, rfl, c, 3, _, rfl, by decide, by decide, hq4.cr, by omega, fun d H5 d0 d1 h5 b5 n5 => ⟨_, _, rfl, rfl, by show 2 ≤ sizeLine; decide, fun t nt => ?_⟩⟩
            have hq5 := (hq4.call h5 b5).new (o := .tup [.int 0, .int (1 + d)]) nt
            exact ⟨G, xs, .ref t, rfl, rfl, hq5.eG, by omega, nx _ _ _ _ _ _ _ (by omega) (by omega) (qa _) ((hq5.app (sti_of 0 (1 + d).toNat (by rfl) (by omega) upd_same) ⟨by omega, by omega⟩).mono (by omega))⟩
          · refine LK.ifF (by simpa using w3) ?_
            refine ⟨_, rfl, .inl ⟨rfl, _, SqL.of hq4.eG⟩, _, rfl, ?_⟩
            dsimp only [tCons]
            refine exK2 (fun x H' => ∃ e : Nat, x = .int (e : Int) ∧ e ≤ 3 ∧ Qw K H H' c G (bb + 6 * i + 6) qs xs) (fun Q' q' => ?_) ?_
            · refine ⟨_, rfl, c, 3, _, rfl, by decide, by decide, hq4.cr, by omega, fun d1 H5 d10 d11 h5 b5 n5 => ⟨rfl, _, rfl, ?_⟩⟩
              have hq5 := hq4.call h5 b5
              by_cases z : d1 = 0
              · subst z
                refine LK.ifT rfl ⟨_, rfl, c, 3, _, rfl, by decide, by decide, hq5.cr, by omega, fun d2 H6 d20 d21 h6 b6 n6 => ⟨_, _, rfl, rfl, ?_⟩⟩
                have hq6 := hq5.call h6 b6
                exact q' _ _ ⟨(1 + d2).toNat, by rw [Int.toNat_of_nonneg (by omega)], by omega, hq6⟩
              · exact LK.ifF (by simpa using z) (q' _ _ ⟨1, rfl, by omega, hq5.mono (by omega)⟩)
            rintro x H6 ⟨e, rfl, e3, hq6⟩
            refine ⟨by show 2 ≤ sizeLine; decide, fun t nt => ?_⟩
            have hq7 := hq6.new (o := .tup [.int (m : Int), .int (e : Int)]) nt
            exact ⟨G, xs, .ref t, rfl, rfl, hq7.eG, by omega, _, rfl, _, rfl, _, _, rfl, rfl, nx _ _ _ _ _ _ _ (by omega) (by omega) (qa _) ((hq7.app (sti_of m e rfl rfl upd_same) ⟨by omega, by omega⟩).mono (by omega))⟩
        · cases fin with
          | false => exact ⟨_, rfl, _, rfl, LK.ifF rfl ⟨_, rfl, _, rfl, LK.ifF rfl ⟨_, rfl, _, rfl, LK.ifF rfl (last _ (hq3.mono (by omega)))⟩⟩⟩
          | true =>
            refine ⟨_, rfl, _, rfl, LK.ifT rfl ⟨_, rfl, rfl, _, rfl, ?_⟩⟩
            by_cases wz : way = 0
            · subst wz
              refine LK.ifT rfl ?_
              refine ⟨_, rfl, .inl ⟨rfl, _, SqL.of hq3.eG⟩, by show 2 ≤ sizeLine; decide, fun T nT => ?_⟩
              have hq4 := hq3.new (o := .lst [.str (Str.ofString "pass"), .str (Str.ofString "chain")]) nT
              have cT : T ≠ c := (hq3.cr.fresh nT).symm
              refine ⟨_, rfl, c, 2, _, rfl, by decide, by decide, hq4.cr, by omega, fun d H5 d0 d1 h5 b5 n5 => ?_⟩
              have hq5 := hq4.call h5 b5
              have eT := b5 _ _ cT (upd_same (H := H4) (a := T) (o := .lst [.str (Str.ofString "pass"), .str (Str.ofString "chain")]))
              obtain rfl | rfl : d = 0 ∨ d = 1 := by omega
              · exact ⟨T, _, 0, _, rfl, rfl, SqL.of eT, rfl, G, xs, _, rfl, rfl, hq5.eG, by omega, _, rfl, _, _, rfl, rfl, nx _ _ _ _ _ _ _ (by omega) (by omega) (qa _) ((hq5.app (q := .pas) (.str _) trivial).mono (by omega))⟩
              · exact ⟨T, _, 1, _, rfl, rfl, SqL.of eT, rfl, G, xs, _, rfl, rfl, hq5.eG, by omega, _, rfl, _, _, rfl, rfl, nx _ _ _ _ _ _ _ (by omega) (by omega) (qa _) ((hq5.app (q := .chn) (.str _) trivial).mono (by omega))⟩
            · refine LK.ifF (by simpa using wz) ?_
              refine ⟨_, rfl, _, rfl, LK.ifT rfl ⟨_, rfl, rfl, _, rfl, ?_⟩⟩
              by_cases w1' : way = 1
              · subst w1'
                refine LK.ifT rfl ⟨_, rfl, _, _, rfl, rfl, _, rfl, ?_⟩
                by_cases l2 : 1 < left
                · refine LK.ifT (decide_eq_true l2) ?_
                  exact ⟨_, rfl, .inl ⟨rfl, _, SqL.of hq3.eG⟩, G, xs, _, rfl, rfl, hq3.eG, by omega, nx _ _ _ _ _ _ _ (by omega) (by omega) (qa _) ((hq3.app (q := .crs) (.str _) trivial).mono (by omega))⟩
                · refine LK.ifF (decide_eq_false l2) ?_
                  exact ⟨_, rfl, _, rfl, LK.ifT rfl ⟨_, rfl, rfl, _, rfl, LK.ifF rfl (last _ (hq3.mono (by omega)))⟩⟩
              · refine LK.ifF (by simpa using w1') ?_
                refine ⟨_, rfl, _, rfl, LK.ifT rfl ⟨_, rfl, rfl, _, rfl, ?_⟩⟩
                by_cases w2 : way = 2
                · subst w2
                  refine LK.ifT rfl ⟨_, rfl, c, 3, _, rfl, by decide, by decide, hq3.cr, by omega, fun d H5 d0 d1 h5 b5 n5 => ⟨rfl, _, rfl, ?_⟩⟩
                  have hq4 := hq3.call h5 b5
                  by_cases z : d = 0
                  · subst z
                    refine LK.ifT rfl ?_
                    refine ⟨_, rfl, .inl ⟨rfl, _, SqL.of hq4.eG⟩, _, rfl, by show 2 ≤ sizeLine; decide, fun t nt => ?_⟩
                    have hq5 := hq4.new (o := .tup [.int (m : Int), .int 0]) nt
                    exact ⟨G, xs, .ref t, rfl, rfl, hq5.eG, by omega, _, rfl, _, rfl, _, _, rfl, rfl, nx _ _ _ _ _ _ _ (by omega) (by omega) (qa _) ((hq5.app (sti_of m 0 rfl rfl upd_same) ⟨by omega, by omega⟩).mono (by omega))⟩
                  · exact LK.ifF (by simpa using z) (last _ (hq4.mono (by omega)))
                · exact LK.ifF (by simpa using w2) (last _ (hq3.mono (by omega)))
      · obtain ⟨qs, xs, left, o6, o7, o8, rfl, l0, l1, ql, hq⟩ := hI
        exact aft _ _ ⟨qs, xs, left, _, _, _, rfl, l0, l1, by omega, hq.mono (by omega)⟩
    · rintro σ Hn ⟨qs, xs, left, o6, o7, o8, rfl, l0, l1, ql, hq⟩
      dsimp only [tSeq]
      refine stJ (fun σ Hn => ∃ (qs : List Sti) (xs : List V) (left : Int) (o6 o7 o8 : Option V), σ = [some (.ref c), some (.int n), some (.ref ya), some (.bl fin), some (.ref G), some (.int left), o6, o7, o8] ∧ 0 ≤ left ∧ left ≤ n ∧ qs.length ≤ 2 * n + 1 ∧ Qw K H Hn c G (bb + 12 * n + 2) qs xs) (fun D' aft => ?_) ?_
      · refine ⟨_, rfl, rfl, _, rfl, ?_⟩
        have xl : xs.length = qs.length := by rw [dps_len hq.dG, List.length_map]
        by_cases n0 : n = 0
        · subst n0
          refine LK.ifT rfl ⟨_, rfl, c, 2, _, rfl, by decide, by decide, hq.cr, by omega, fun d H5 d0 d1 h5 b5 n5 => ⟨rfl, _, rfl, ?_⟩⟩
          have hq5 := hq.call h5 b5
          by_cases z : d = 0
          · subst z
            refine LK.ifT rfl ?_
            refine ⟨_, rfl, .inl ⟨rfl, _, SqL.of hq5.eG⟩, _, rfl, c, 3, _, rfl, by decide, by decide, hq5.cr, by omega, fun d H6 d0 d1 h6 b6 n6 => ⟨_, _, rfl, rfl, by show 2 ≤ sizeLine; decide, fun t nt => ?_⟩⟩
            have hq6 := (hq5.call h6 b6).new (o := .tup [.int 0, .int (1 + d)]) nt
            refine ⟨G, xs, .ref t, rfl, rfl, hq6.eG, by omega, aft _ _ ⟨_, _, _, _, _, _, rfl, l0, l1, ?_, hq6.app (sti_of 0 (1 + d).toNat (by rfl) (by omega) upd_same) ⟨by omega, by omega⟩⟩⟩
            rw [List.length_append, List.length_singleton]
            omega
          · exact LK.ifF (by simpa using z) (aft _ _ ⟨_, _, _, _, _, _, rfl, l0, l1, by omega, hq5.mono (by omega)⟩)
        · exact LK.ifF (by simpa using fun e : (n : Int) = 0 => n0 (by omega)) (aft _ _ ⟨_, _, _, _, _, _, rfl, l0, l1, by omega, hq.mono (by omega)⟩)
      · rintro σ Hn ⟨qs, xs, left, o6, o7, o8, rfl, l0, l1, ql, hq⟩
        have xl : xs.length = qs.length := by rw [dps_len hq.dG, List.length_map]
        have y0 : 0 < ys.length := List.length_pos_iff.mpr hne
        refine ⟨_, rfl, _, rfl, _, rfl, ya, _, rfl, .inl (SqL.of (hq.bt _ _ cy hy)), ?_⟩
        rw [List.length_map]
        refine ⟨c, _, _, rfl, by omega, by omega, hq.cr, by omega, fun d3 H6 d30 d31 h6 b6 n6 => ?_⟩
        have hq6 := hq.call h6 b6
        obtain ⟨y, hyy⟩ : ∃ y, ys[d3.toNat]? = some y := ⟨ys[d3.toNat]'(by omega), List.getElem?_eq_getElem (by omega)⟩
        have at3 : atI (ys.map V.str) d3 = some (.str y) := by
          have := atI_nat (xs := ys.map V.str) (j := d3.toNat) (v := .str y) (by rw [List.getElem?_map, hyy]; rfl)
          rwa [show ((d3.toNat : Nat) : Int) = d3 by omega] at this
        refine ⟨ya, _, _, _, rfl, rfl, SqL.of (hq6.bt _ _ cy hy), at3, ?_⟩
        refine ⟨_, rfl, by show 2 ≤ sizeLine; decide, fun t1 nt1 => ⟨by show 1 ≤ sizeLine; decide, fun t2 nt2 => ?_⟩⟩
        have hq7 := hq6.new (o := .tup [.int 1, .int 1]) nt1
        have hq8 := hq7.new (o := .lst [.ref t1]) nt2
        have fl : (List.replicate left.toNat [V.ref t1]).flatten.length = left.toNat := by
          rw [List.length_flatten, List.map_replicate, List.sum_replicate_nat]
          simp
        refine ⟨_, rfl, t2, left, _, rfl, rfl, upd_same, by omega, by omega, ?_, fun p np => ?_⟩
        · show 1 * left.toNat ≤ sizeLine
          omega
        have hq9 := hq8.new (o := .lst (List.replicate left.toNat [V.ref t1]).flatten) np
        refine ⟨G, p, xs, _, rfl, rfl, hq9.eG, upd_same, by omega, fun p2 np2 => ?_⟩
        have hq10 := hq9.new (o := .lst (xs ++ (List.replicate left.toNat [V.ref t1]).flatten)) np2
        refine ⟨p2, _, rfl, .inl ⟨SqL.of upd_same, fun p3 np3 => ⟨by show 2 ≤ sizeLine; decide, fun t nt => ?_⟩⟩⟩
        have hq11 := hq10.new (o := .tup (xs ++ (List.replicate left.toNat [V.ref t1]).flatten)) np3
        have hq12 := hq11.new (o := .tup [.str y, .ref p3]) nt
        have s2 := (((same_new (o := .lst [.ref t1]) nt2).trans (same_new (o := .lst (List.replicate left.toNat [V.ref t1]).flatten) np)).trans (same_new (o := .lst (xs ++ (List.replicate left.toNat [V.ref t1]).flatten)) np2)).trans ((same_new (o := .tup (xs ++ (List.replicate left.toNat [V.ref t1]).flatten)) np3).trans (same_new (o := .tup [.str y, .ref p3]) nt))
        have e1 := s2 _ _ (upd_same (H := H6) (a := t1) (o := .tup [.int 1, .int 1]))
        refine k _ _ y (qs ++ List.replicate left.toNat (.st 1 1)) ?_ (hq12.cr.mono (by omega)) hq12.bt (List.mem_of_getElem? hyy) ?_ ?_
        · refine .tup (SqT.of upd_same) (.cons (.str _) (.cons (.tup (SqT.of (same_new nt _ _ upd_same)) ?_) .nil))
          rw [List.map_append]
          exact dps_app hq12.dG (dps_rep (sti_of 1 1 rfl rfl e1) _)
        · rw [List.length_append, List.length_replicate]
          omega
        · intro q hq'
          rcases List.mem_append.mp hq' with z | z
          · exact hq.sm q z
          · rw [(List.mem_replicate.mp z).2]
            exact ⟨by omega, by omega⟩
end
end B7
/-! _law_drawn_work: a work that goes well. -/
namespace B7
open PySem PySem.Spec PyProof.Rows L2 LK MXo
abbrev sDWork : Stmt := top 48
theorem scDWork : FnScope ["creel", "yarns", "most", "rows_most", "most_loops", "yarn", "size", "courses", "state", "turn", "course", "later"] ["creel", "yarns", "most", "rows_most", "most_loops"] (defScope sDWork) := ⟨rfl, rfl, rfl, by decide +kernel, rfl, by decide +kernel, by decide +kernel⟩
theorem cous_tk {K : PySem.W.Frag} {H H' : Hp} (e : Tk H H') : ∀ {xs : List V} {cs : List (Str × List Sti)}, DpAll K H xs (cs.map couD) → DpAll K H' xs (cs.map couD)
  | _, [], .nil => .nil
  | _, _ :: _, .cons a r => .cons (cou_tk e a) (cous_tk e r)
theorem ints_len {n : Nat} {xs : List Int} (nd : xs.Nodup) (h : ∀ x ∈ xs, 0 ≤ x ∧ x < (n : Int)) : xs.length ≤ n := by
  have := sub_len xs ((List.range n).map fun i : Nat => (i : Int)) nd fun x hx => by
    have := h x hx
    exact List.mem_map.mpr ⟨x.toNat, List.mem_range.mpr (by omega), by omega⟩
  rwa [List.length_map, List.length_range] at this
theorem OkT.lens {ys : List Str} {st : St3} (h : OkT ys st) : st.2.1.length ≤ st.1.length ∧ st.2.2.length ≤ st.1.length := by
  have := ints_len h.nd h.rg
  rw [List.length_append] at this
  omega
theorem Told3.bt {K : PySem.W.Frag} {H0 Hn H' : Hp} {c : Addr} {B : Nat} {v : V} {st : St3} (h : Told3 K H0 Hn v st) (hc : CR Hn c B) (h0 : H0 c ≠ none) (b : Bt c Hn H') : Told3 K H0 H' v st := by
  obtain ⟨t, L, T, D, xs, rfl, nL, nT, nD, et, eL, dL, eT, eD⟩ := h
  have ne : ∀ {p : Addr}, H0 p = none → p ≠ c := fun n e => h0 (e ▸ n)
  have tk := Tk.bt hc b
  exact ⟨t, L, T, D, xs, rfl, nL, nT, nD, tk _ _ (fun _ q => by cases q) et, b _ _ (ne nL) eL, lps_tk tk dL, b _ _ (ne nT) eT, b _ _ (ne nD) eD⟩
theorem Told3.same {K : PySem.W.Frag} {H0 Hn H' : Hp} {v : V} {st : St3} (h : Told3 K H0 Hn v st) (b : Same Hn H') : Told3 K H0 H' v st := by
  obtain ⟨t, L, T, D, xs, rfl, nL, nT, nD, et, eL, dL, eT, eD⟩ := h
  exact ⟨t, L, T, D, xs, rfl, nL, nT, nD, b _ _ et, b _ _ eL, dps_same b dL, b _ _ eT, b _ _ eD⟩
/-- rows that go well, and what they lead to -/
structure Wk (ys : List Str) (y : Str) (n M : Nat) (cs : List (Str × List Sti)) (st : St3) : Prop where
  hy : y ∈ ys
  ok : workD cs (laid y n) = some st
  sq : ∀ c ∈ cs, c.2.length ≤ 1000 ∧ ∀ q ∈ c.2, smallQ q
  pre : ∀ k st', workD (cs.take k) (laid y n) = some st' → OkT ys st' ∧ st'.1.length ≤ M
theorem Wk.good {ys : List Str} {y : Str} {n M : Nat} {cs : List (Str × List Sti)} {st : St3} (h : Wk ys y n M cs st) : OkT ys st ∧ st.1.length ≤ M := by
  have := h.pre cs.length st
  rw [List.take_length] at this
  exact this h.ok
theorem Wk.bd {ys : List Str} {y : Str} {n M : Nat} {cs : List (Str × List Sti)} {st : St3} (h : Wk ys y n M cs st) (hM : M ≤ 1000) : ∀ k st', workD (cs.take k) (laid y n) = some st' → small3 st' := fun k st' e => by
  obtain ⟨a, b⟩ := h.pre k st' e
  have := a.lens
  exact ⟨by omega, by omega, by omega⟩
theorem Wk.start {ys : List Str} {y : Str} {n M : Nat} (hy : y ∈ ys) (hM : n ≤ M) : Wk ys y n M [] (laid y n) := by
  refine ⟨hy, rfl, fun c h => absurd h List.not_mem_nil, fun k st' e => ?_⟩
  rw [List.take_nil] at e
  cases e
  refine ⟨laid_ok n hy, ?_⟩
  show (List.replicate n (y, ([] : List Int))).length ≤ M
  rw [List.length_replicate]
  exact hM
theorem Wk.more {ys : List Str} {y : Str} {n M : Nat} {cs : List (Str × List Sti)} {st st' : St3} {c : Str × List Sti} (h : Wk ys y n M cs st) (hc : c.1 ∈ ys) (hl : c.2.length ≤ 1000) (hq : ∀ q ∈ c.2, smallQ q) (e : rowD c.1 c.2 st = some st') (hM : st'.1.length ≤ M) : Wk ys y n M (cs ++ [c]) st' := by
  have all : workD (cs ++ [c]) (laid y n) = some st' := by
    rw [workD_app, h.ok]
    show (rowD c.1 c.2 st).bind (workD []) = _
    rw [e]
    rfl
  refine ⟨h.hy, all, fun d hd => ?_, fun k st2 e2 => ?_⟩
  · rcases List.mem_append.mp hd with hd | hd
    · exact h.sq d hd
    · rw [List.mem_singleton.mp hd]
      exact ⟨hl, hq⟩
  · by_cases hk : k ≤ cs.length
    · rw [List.take_append_of_le_length hk] at e2
      exact h.pre k st2 e2
    · rw [List.take_of_length_le (by rw [List.length_append, List.length_singleton]; omega), all] at e2
      cases e2
      exact ⟨h.good.1.row hc hq e, hM⟩
def spDWork (K : PySem.W.Frag) : Sp := fun vs H Q _ => ∃ (c ya : Addr) (most rm ml B : Nat) (ys : List Str), vs = [.ref c, .ref ya, .int most, .int rm, .int ml] ∧ 0 < most ∧ most ≤ 100 ∧ rm ≤ 20 ∧ ml ≤ 100 ∧ CR H c B ∧ B + 100000 < 10 ^ 12 ∧ Ys H ya ys ∧ ys ≠ [] ∧ ys.length ≤ 1000 ∧
  ∀ (t ca : Addr) (H' : Hp) (y : Str) (n : Nat) (cs : List (Str × List Sti)) (st : St3) (cxs : List V), H ca = none → H' t = some (.tup [.str y, .int n, .ref ca]) → H' ca = some (.lst cxs) → DpAll K H' cxs (cs.map couD) → CR H' c (B + 100000) → Bt c H H' → n ≤ most → cs.length ≤ rm → Wk ys y n (max most ml) cs st → Q (.ref t) H'
section
variable {P : Program} {w : World} {K : PySem.W.Frag} {mg : Str → Option Value} {base : Heap}
theorem ok_dwork {f fp fr fw fe : Addr} {fd fdp fdr fdw fde : FuncData} (F : Fun K "_law_drawn_work" "_law_drawn_work" sDWork f fd) (Fp : Fun K "_law_ply" "_law_ply" sPly fp fdp) (Fr : Fun K "_law_row_done" "_law_row_done" sRow fr fdr) (Fw : Fun K "_law_work_done" "_law_work_done" sWork fw fdw) (Fe : Fun K "_law_drawn_row" "_law_drawn_row" sDRow fe fde) (B : Bl mg) (gp : mg "_law_ply" = some (.ref fp)) (gr : mg "_law_row_done" = some (.ref fr)) (gw : mg "_law_work_done" = some (.ref fw)) (ge : mg "_law_drawn_row" = some (.ref fe)) (bp : Binds K fdp ["creel", "span"] []) (br : Binds K fdr ["loops_here", "fast_here", "needle_here", "course", "number"] []) (bw : Binds K fdw ["yarn", "size", "courses"] []) (be : Binds K fde ["creel", "count", "yarns", "finite"] [])
    (Gp : FnOk P w K mg base CX0 1 fp fdp ["creel", "span"] spPly) (Gr : FnOk P w K mg base CX0 1 fr fdr ["loops_here", "fast_here", "needle_here", "course", "number"] (spRow K)) (Gw : FnOk P w K mg base CX0 2 fw fdw ["yarn", "size", "courses"] (spWork K)) (Ge : FnOk P w K mg base CX0 2 fe fde ["creel", "count", "yarns", "finite"] (spDRow K)) :
    FnOk P w K mg base CX0 3 f fd ["creel", "yarns", "most", "rows_most", "most_loops"] (spDWork K) := by
  refine F.ok scDWork (fun vs H Q E h => ?_) (fun cdv A outer s H vs Q E hr h => ?_)
  · obtain ⟨c, ya, most, rm, ml, bb, ys, rfl, _⟩ := h
    rfl
  · obtain ⟨c, ya, most, rm, ml, bb, ys, rfl, m0, m1, r1, ml1, hc, hB, hy, hne, hyl, k⟩ := h
    refine ⟨_, pss_cons (ps_par3 (i := 5) (j := 6) (l := 7) rfl scDWork.nd rfl rfl rfl (by decide) (by decide) (by decide) rfl rfl rfl (pa_cons (pe_ix ix_list (pv 1) (pe_call (E := E0) Gp (hr.mono (by decide)) rfl gp Fp.kp bp .nil pass0 (pa_cons (pv 0) (pa_cons (pe_callB call_len_seq (by rfl) (B "len" (by decide)) (by decide +kernel) (pa_cons (pv 1) pa_nil)) pa_nil))) (fun _ _ => rfl)) (pa_cons (pe_op op_add pe_int (pe_call (E := E0) Gp (hr.mono (by decide)) rfl gp Fp.kp bp .nil pass0 (pa_cons (pv 0) (pa_cons (pv 2) pa_nil)))) (pa_cons (pe_lst pa_nil) pa_nil))) (by rfl))
      (pss_cons (ps_set (i := 8) scDWork.nd rfl (Or.inl rfl) (pe_call (E := E0) Gw (hr.mono (by decide)) rfl gw Fw.kp bw .nil pass0 (pa_cons (pv 5) (pa_cons (pv 6) (pa_cons (pv 7) pa_nil)))))
      (pss_cons (ps_for PassesOwn.never rfl (pi_range1 (by rfl) (B "range" (by decide)) (pa_cons (pe_call (E := E0) Gp (hr.mono (by decide)) rfl gp Fp.kp bp .nil pass0 (pa_cons (pv 0) (pa_cons (pe_op op_add (pv 3) pe_int) pa_nil))) pa_nil)) (pg_name (i := 9) scDWork.nd rfl (Or.inl rfl)) (pss_cons (ps_set (i := 10) scDWork.nd rfl (Or.inl rfl) (pe_call (E := E0) Ge (hr.mono (by decide)) rfl ge Fe.kp be .nil pass0 (pa_cons (pv 0) (pa_cons (pe_callB call_len_seq (by rfl) (B "len" (by decide)) (by decide +kernel) (pa_cons (pe_ix (ixt (K := K)) (pv 8) pe_int (fun _ _ => rfl)) pa_nil)) (pa_cons (pv 1) (pa_cons pe_bl pa_nil))))))
      (pss_cons (ps_set (i := 11) scDWork.nd rfl (Or.inl rfl) (pe_call (E := E0) Gr (hr.mono (by decide)) rfl gr Fr.kp br .nil pass0 (pa_cons (pe_ix (ixt (K := K)) (pv 8) pe_int (fun _ _ => rfl)) (pa_cons (pe_ix (ixt (K := K)) (pv 8) pe_int (fun _ _ => rfl)) (pa_cons (pe_ix (ixt (K := K)) (pv 8) pe_int (fun _ _ => rfl)) (pa_cons (pv 10) (pa_cons (pe_callB call_len_seq (by rfl) (B "len" (by decide)) (by decide +kernel) (pa_cons (pv 7) pa_nil)) pa_nil)))))))
      (pss_one (ps_if (PW.pt (pw_and (pt_cmpR op_eq (pe_callB call_len_seq (by rfl) (B "len" (by decide)) (by decide +kernel) (pa_cons (pv 11) pa_nil)) pe_int (nomark _)) (pw_and1 (pt_cmpR op_le (pe_callB call_len_seq (by rfl) (B "len" (by decide)) (by decide +kernel) (pa_cons (pe_ix (ixt (K := K)) (pv 11) pe_int (fun _ _ => rfl)) pa_nil)) (pv 4) (nomark _))))) (pss_one (ps_par (i := 7) (j := 8) rfl scDWork.nd rfl rfl (by decide) rfl rfl (pa_cons (pe_op op_cat (pv 7) (pe_lst (pa_cons (pv 10) pa_nil))) (pa_cons (pv 11) pa_nil)) (by rfl))) pss_nil)))))
      (pss_one (ps_ret (pe_tup (pa_cons (pv 5) (pa_cons (pv 6) (pa_cons (pv 7) pa_nil)))))))), ?_⟩
    have cy : ya ≠ c := by
      intro e
      subst e
      obtain ⟨_, _, _, e, _⟩ := hc
      rw [Ys, e] at hy
      cases ys with
      | nil => exact hne rfl
      | cons a r => simp at hy
    have c0 : H c ≠ none := by
      obtain ⟨_, _, _, e, _⟩ := hc
      rw [e]
      exact fun z => by cases z
    have ty2 : sizeLine = 16777216 := sizeLine_eq
    have y0 : 0 < ys.length := List.length_pos_iff.mpr hne
    refine ⟨_, rfl, _, rfl, _, rfl, ya, _, rfl, .inl (SqL.of hy), ?_⟩
    rw [List.length_map]
    refine ⟨c, _, _, rfl, by omega, by omega, hc, by omega, fun d1 H1 d10 d11 h1 b1 n1 => ?_⟩
    obtain ⟨y, hyy⟩ : ∃ y, ys[d1.toNat]? = some y := ⟨ys[d1.toNat]'(by omega), List.getElem?_eq_getElem (by omega)⟩
    have at3 : atI (ys.map V.str) d1 = some (.str y) := by
      have := atI_nat (xs := ys.map V.str) (j := d1.toNat) (v := .str y) (by rw [List.getElem?_map, hyy]; rfl)
      rwa [show ((d1.toNat : Nat) : Int) = d1 by omega] at this
    refine ⟨ya, _, _, _, rfl, rfl, SqL.of (b1 _ _ cy hy), at3, ?_⟩
    refine ⟨_, rfl, _, rfl, c, _, _, rfl, by omega, by omega, h1, by omega, fun d2 H2 d20 d21 h2 b2 n2 => ⟨_, _, rfl, rfl, by show 0 ≤ sizeLine; decide, fun ca nca => ⟨_, _, _, rfl, ?_⟩⟩⟩
    obtain ⟨n, hn⟩ : ∃ n : Nat, 1 + d2 = (n : Int) := ⟨(1 + d2).toNat, by omega⟩
    dsimp only
    rw [hn]
    have hyy' := List.mem_of_getElem? hyy
    have b12 := b1.trans b2
    have cca : c ≠ ca := h2.fresh nca
    have nH : H ca = none := by
      cases e : H ca with
      | none => rfl
      | some o => rw [b12 _ _ cca.symm e] at nca; cases nca
    have wk0 : Wk ys y n (max most ml) [] (laid y n) := Wk.start hyy' (by omega)
    refine ⟨_, rfl, _, rfl, _, rfl, y, n, ca, [], [], rfl, SqL.of upd_same, .nil, by omega, Nat.zero_le _, fun c h => absurd h List.not_mem_nil, wk0.bd (by omega), fun v H3 s3 yes no => ?_⟩
    have told := yes (laid y n) rfl
    have told0 : Told3 K H H3 v (laid y n) := by
      obtain ⟨t, L, T, D, xs, rfl, nL, nT, nD, r⟩ := told
      have old : ∀ {p : Addr}, upd H2 ca (.lst []) p = none → H p = none := fun {p} np => by
        have nc : p ≠ c := fun e => by
          subst e
          obtain ⟨_, _, _, e, _⟩ := h2
          rw [upd_ne cca, e] at np
          cases np
        cases e : H p with
        | none => rfl
        | some o => rw [same_new nca _ _ (b12 _ _ nc e)] at np; cases np
      exact ⟨t, L, T, D, xs, rfl, old nL, old nT, old nD, r⟩
    have h3 : CR H3 c (bb + 1 + 1) := (h2.upd cca.symm).same s3
    have b3 : Bt c H H3 := b12.trans ((Bt.of (same_new nca)).trans (Bt.of s3))
    refine ⟨_, rfl, _, rfl, _, _, rfl, rfl, c, _, _, rfl, by omega, by omega, h3, by omega, fun d3 H4 d30 d31 h4 b4 n4 => ⟨d3, rfl, by omega, by omega, ?_⟩⟩
    refine for_range (lo := 0) (n := d3.toNat) (fun i σ Hn => ∃ (cs : List (Str × List Sti)) (st : St3) (cxs : List V) (ca : Addr) (v : V) (o9 o10 o11 : Option V), σ = [some (.ref c), some (.ref ya), some (.int most), some (.int rm), some (.int ml), some (.str y), some (.int n), some (.ref ca), some v, o9, o10, o11] ∧ H ca = none ∧ Hn ca = some (.lst cxs) ∧ DpAll K Hn cxs (cs.map couD) ∧ Wk ys y n (max most ml) cs st ∧ cs.length ≤ i ∧ Told3 K H Hn v st ∧ CR Hn c (bb + 3 + 3000 * i) ∧ Bt c H Hn)
      ⟨[], laid y n, [], ca, v, _, _, _, rfl, nH, b4 _ _ cca.symm (s3 _ _ upd_same), .nil, wk0, Nat.zero_le _, told0.bt h3 c0 b4, h4, b3.trans b4⟩ (fun i σ H5 hi hI => ?_) (fun σ H5 hI => ?_)
    · obtain ⟨cs, st, cxs, ca, v, o9, o10, o11, rfl, nca, eca, dca, wk, cl, told, hc5, b5⟩ := hI
      have ne : ∀ {p : Addr}, H p = none → p ≠ c := fun n e => c0 (e ▸ n)
      obtain ⟨good, gl⟩ := wk.good
      have gll := good.lens
      have told' := told
      obtain ⟨t, L, T, D, xs, rfl, nL, nT, nD, et, eL, dL, eT, eD⟩ := told
      refine ⟨_, rfl, _, rfl, t, _, 2, _, rfl, rfl, SqT.of et, atI_nat (j := 2) rfl, D, _, rfl, .inl (SqL.of eD), _, rfl, ?_⟩
      rw [List.length_map]
      refine ⟨c, ya, _, _, ys, true, rfl, by omega, hc5, by omega, b5 _ _ cy hy, hne, hyl, fun co H6 yc qs dco h6 b6 hyc hqs hq => ?_⟩
      have tk6 := Tk.bt hc5 b6
      have told6 := told'.bt hc5 c0 b6
      obtain ⟨t', L, T, D, xs, et', nL, nT, nD, et, eL, dL, eT, eD⟩ := told6
      cases et'
      have eca6 := b6 _ _ (ne nca) eca
      have cl6 := dps_len dca
      rw [List.length_map] at cl6
      have dco' := dco
      cases dco with
      | @tup co _ _ sco dcs =>
        refine ⟨_, rfl, t, _, 0, _, rfl, rfl, SqT.of et, atI_nat (j := 0) rfl, _, rfl, t, _, 1, _, rfl, rfl, SqT.of et, atI_nat (j := 1) rfl, _, rfl, t, _, 2, _, rfl, rfl, SqT.of et, atI_nat (j := 2) rfl, _, rfl, _, rfl, ca, cxs, rfl, .inl (SqL.of eca6), ?_⟩
        refine ⟨L, T, D, co, _, xs, st, yc, qs, rfl, SqL.of eL, dL, SqL.of eT, SqL.of eD, dco', by omega, by omega, by omega, by omega, hq, fun v H7 s7 yes no => ?_⟩
        have stay : Told3 K H H7 (.ref t) st := Told3.same ⟨t, L, T, D, xs, rfl, nL, nT, nD, et, eL, dL, eT, eD⟩ s7
        have eca7 := s7 _ _ eca6
        have dca7 := dps_same s7 (cous_tk tk6 dca)
        have h7 : CR H7 c (bb + 3 + 3000 * (i + 1)) := (h6.same s7).mono (by omega)
        have b7 : Bt c H H7 := b5.trans (b6.trans (Bt.of s7))
        cases hr2 : rowD yc qs st with
        | none =>
          obtain ⟨t2, a2, b2, rfl, e2⟩ := no hr2
          exact ⟨_, rfl, t2, _, rfl, .inr (SqT.of e2), rfl, _, rfl, LK.ifF rfl (LK.ifF rfl ⟨cs, st, cxs, ca, _, _, _, _, rfl, nca, eca7, dca7, wk, by omega, stay, h7, b7⟩)⟩
        | some st2 =>
          have told2 := yes st2 hr2
          have told2' := told2
          obtain ⟨t2, L2, T2, D2, xs2, rfl, nL2, nT2, nD2, et2, eL2, dL2, r2⟩ := told2
          have xl2 := dps_len dL2
          rw [List.length_map] at xl2
          refine ⟨_, rfl, t2, _, rfl, .inr (SqT.of et2), rfl, _, rfl, LK.ifT rfl ⟨_, rfl, t2, _, 0, _, rfl, rfl, SqT.of et2, atI_nat (j := 0) rfl, L2, _, rfl, .inl (SqL.of eL2), _, rfl, _, _, rfl, rfl, _, rfl, ?_⟩⟩
          by_cases le : (xs2.length : Int) ≤ ml
          · refine LK.ifT (decide_eq_true le) ⟨_, rfl, _, rfl, by show 1 ≤ sizeLine; decide, fun p np => ?_⟩
            have s8 := same_new (o := .lst [.ref co]) np
            refine ⟨ca, p, cxs, _, rfl, rfl, s8 _ _ eca7, upd_same, ?_, fun p2 np2 => ⟨_, rfl, _, _, rfl, ?_⟩⟩
            · simp only [List.length_cons, List.length_nil]
              omega
            have s9 := s8.trans (same_new (o := .lst (cxs ++ [.ref co])) np2)
            have np2' : H p2 = none := by
              cases e : H p2 with
              | none => rfl
              | some o =>
                by_cases pc : p2 = c
                · subst pc
                  obtain ⟨_, _, _, e, _⟩ := h7
                  rw [s8 _ _ e] at np2
                  cases np2
                · rw [s8 _ _ (b7 _ _ pc e)] at np2
                  cases np2
            have old : ∀ {q : Addr}, H6 q = none → H q = none := fun {q} nq => by
              cases e : H q with
              | none => rfl
              | some o =>
                by_cases pc : q = c
                · subst pc
                  obtain ⟨_, _, _, e, _⟩ := h6
                  rw [e] at nq
                  cases nq
                · rw [b6 _ _ pc (b5 _ _ pc e)] at nq
                  cases nq
            refine ⟨cs ++ [(yc, qs)], st2, cxs ++ [.ref co], p2, _, _, _, _, rfl, np2', upd_same, ?_, wk.more hyc hqs hq hr2 (by omega), ?_, ?_, h7.same s9, b7.trans (Bt.of s9)⟩
            · rw [List.map_append]
              exact dps_app (dps_same s9 dca7) (.cons (dp_same (s7.trans s9) dco') .nil)
            · rw [List.length_append, List.length_singleton]
              omega
            · exact Told3.same ⟨t2, L2, T2, D2, xs2, rfl, old nL2, old nT2, old nD2, et2, eL2, dL2, r2⟩ s9
          · refine LK.ifF (decide_eq_false le) ?_
            exact ⟨cs, st, cxs, ca, _, _, _, _, rfl, nca, eca7, dca7, wk, by omega, stay, h7, b7⟩
    · obtain ⟨cs, st, cxs, ca, v, o9, o10, o11, rfl, nca, eca, dca, wk, cl, told, hc5, b5⟩ := hI
      refine ⟨_, rfl, _, rfl, _, rfl, by show 3 ≤ sizeLine; decide, fun t nt => ?_⟩
      have s := same_new (o := .tup [.str y, .int n, .ref ca]) nt
      exact k t ca _ y n cs st cxs nca upd_same (s _ _ eca) (dps_same s dca) ((hc5.same s).mono (by omega)) (b5.trans (Bt.of s)) (by omega) (by omega) wk
end
end B7
/-! _law_scene: a cloth that is drawn, or worked. -/
namespace B7
open PySem PySem.Spec PyProof.Rows L2 LK MXo
abbrev sScene : Stmt := top 49
theorem scScene : FnScope ["creel", "most", "yarns", "first", "size", "courses", "made", "tied", "on_pins"] ["creel", "most"] (defScope sScene) := ⟨rfl, rfl, rfl, by decide +kernel, rfl, by decide +kernel, by decide +kernel⟩
theorem gone_bt {H H1 : Hp} {c q : Addr} {B : Nat} (hc : CR H1 c B) (b : Bt c H H1) (n : H1 q = none) : H q = none := by
  cases e : H q with
  | none => rfl
  | some o =>
    by_cases pc : q = c
    · subst pc
      obtain ⟨_, _, _, e, _⟩ := hc
      rw [e] at n
      cases n
    · rw [b _ _ pc e] at n
      cases n
/-- what is told of a scene -/
structure Scn (K : PySem.W.Frag) (H H' : Hp) (t L G : Addr) (m : Nat) (ys : List Str) (ls : List Lp) (xs : List V) (fs : List Int) : Prop where
  nL : H L = none
  nG : H G = none
  LG : L ≠ G
  et : H' t = some (.tup [.ref L, .ref G])
  eL : H' L = some (.lst xs)
  dL : DpAll K H' xs (ls.map lpD)
  eG : H' G = some (.lst (fs.map V.int))
  ln : ls.length ≤ m
  ok : OkLs ys ls
  fs : OkFs ls.length fs
  yn : ∀ y ∈ ys, Yn y
def spScene (K : PySem.W.Frag) : Sp := fun vs H Q _ => ∃ (c : Addr) (most B : Nat), vs = [.ref c, .int most] ∧ most ≤ 100 ∧ CR H c B ∧ B + 200000 < 10 ^ 12 ∧
  ∀ (t L G : Addr) (H' : Hp) (ys : List Str) (ls : List Lp) (xs : List V) (fs : List Int), Scn K H H' t L G (max 4 most) ys ls xs fs → CR H' c (B + 200000) → Bt c H H' → Q (.ref t) H'
section
variable {P : Program} {w : World} {K : PySem.W.Frag} {mg : Str → Option Value} {base : Heap}
theorem ok_scene {f fp fy fa fw fe : Addr} {fd fdp fdy fda fdw fde : FuncData} (F : Fun K "_law_scene" "_law_scene" sScene f fd) (Fp : Fun K "_law_ply" "_law_ply" sPly fp fdp) (Fy : Fun K "_law_yarns" "_law_yarns" sYarns fy fdy) (Fa : Fun K "_law_any_cloth" "_law_any_cloth" sAny fa fda) (Fw : Fun K "_law_work_done" "_law_work_done" sWork fw fdw) (Fe : Fun K "_law_drawn_work" "_law_drawn_work" sDWork fe fde) (B : Bl mg) (gp : mg "_law_ply" = some (.ref fp)) (gy : mg "_law_yarns" = some (.ref fy)) (ga : mg "_law_any_cloth" = some (.ref fa)) (gw : mg "_law_work_done" = some (.ref fw)) (ge : mg "_law_drawn_work" = some (.ref fe)) (bp : Binds K fdp ["creel", "span"] []) (by' : Binds K fdy ["creel", "many"] []) (ba : Binds K fda ["creel", "most", "yarns"] []) (bw : Binds K fdw ["yarn", "size", "courses"] []) (be : Binds K fde ["creel", "yarns", "most", "rows_most", "most_loops"] [])
    (Gp : FnOk P w K mg base CX0 1 fp fdp ["creel", "span"] spPly) (Gy : FnOk P w K mg base CX0 2 fy fdy ["creel", "many"] spYarns) (Ga : FnOk P w K mg base CX0 2 fa fda ["creel", "most", "yarns"] (spAny K)) (Gw : FnOk P w K mg base CX0 2 fw fdw ["yarn", "size", "courses"] (spWork K)) (Ge : FnOk P w K mg base CX0 3 fe fde ["creel", "yarns", "most", "rows_most", "most_loops"] (spDWork K)) :
    FnOk P w K mg base CX0 4 f fd ["creel", "most"] (spScene K) := by
  refine F.ok scScene (fun vs H Q E h => ?_) (fun cdv A outer s H vs Q E hr h => ?_)
  · obtain ⟨c, most, bb, rfl, _⟩ := h
    rfl
  · obtain ⟨c, most, bb, rfl, m1, hc, hB, k⟩ := h
    refine ⟨_, pss_cons (ps_set (i := 2) scScene.nd rfl (Or.inl rfl) (pe_call (E := E0) Gy (hr.mono (by decide)) rfl gy Fy.kp by' .nil pass0 (pa_cons (pv 0) (pa_cons pe_int pa_nil))))
      (pss_cons (ps_if (pt_cmpR op_gt (pe_call (E := E0) Gp (hr.mono (by decide)) rfl gp Fp.kp bp .nil pass0 (pa_cons (pv 0) (pa_cons pe_int pa_nil))) pe_int (nomark _)) (pss_one (ps_ret (pe_call (E := E0) Ga (hr.mono (by decide)) rfl ga Fa.kp ba .nil pass0 (pa_cons (pv 0) (pa_cons (pv 1) (pa_cons (pv 2) pa_nil)))))) pss_nil)
      (pss_cons (ps_asg (pe_call (E := E0) Ge (hr.mono (by decide)) rfl ge Fe.kp be .nil pass0 (pa_cons (pv 0) (pa_cons (pv 2) (pa_cons pe_int (pa_cons pe_int (pa_cons (pv 1) pa_nil)))))) (pg_tup rfl (pgs_cons (pg_name (i := 3) scScene.nd rfl (Or.inl rfl)) (pgs_cons (pg_name (i := 4) scScene.nd rfl (Or.inl rfl)) (pgs_cons (pg_name (i := 5) scScene.nd rfl (Or.inl rfl)) pgs_nil)))))
      (pss_cons (ps_asg (pe_call (E := E0) Gw (hr.mono (by decide)) rfl gw Fw.kp bw .nil pass0 (pa_cons (pv 3) (pa_cons (pv 4) (pa_cons (pv 5) pa_nil)))) (pg_tup rfl (pgs_cons (pg_name (i := 6) scScene.nd rfl (Or.inl rfl)) (pgs_cons (pg_name (i := 7) scScene.nd rfl (Or.inl rfl)) (pgs_cons (pg_name (i := 8) scScene.nd rfl (Or.inl rfl)) pgs_nil)))))
      (pss_one (ps_ret (pe_tup (pa_cons (pv 6) (pa_cons (pe_callB L2.cr_sortedI (by rfl) (B "sorted" (by decide)) (by decide +kernel) (pa_cons (pe_op op_cat (pv 7) (pv 8)) pa_nil)) pa_nil)))))))), ?_⟩
    have ty2 : sizeLine = 16777216 := sizeLine_eq
    refine ⟨_, rfl, c, 2, _, rfl, by decide, hc, by omega, fun ya H1 ys nya h1 b1 eys yl yn => ?_⟩
    have cya : ya ≠ c := fun e => by
      subst e
      obtain ⟨_, _, _, e, _⟩ := hc
      rw [nya] at e
      cases e
    refine ⟨_, rfl, c, 3, _, rfl, by decide, by decide, h1, by omega, fun d H2 d0 d1 h2 b2 n2 => ⟨_, _, rfl, rfl, _, rfl, ?_⟩⟩
    have eys2 : Ys H2 ya ys := b2 _ _ cya eys
    have yne : ys ≠ [] := fun e => by rw [e] at yl; cases yl
    have b12 := b1.trans b2
    by_cases dd : 0 < d
    · refine LK.ifT (decide_eq_true dd) ?_
      refine ⟨_, rfl, _, rfl, _, rfl, c, ya, most, _, ys, rfl, by omega, h2, by omega, eys2, yne, by omega, fun t L G H3 ls xs fs nL nG LG et eL dL eG h3 b3 ln ok fsok => ?_⟩
      exact k t L G H3 ys ls xs fs ⟨gone_bt h2 b12 nL, gone_bt h2 b12 nG, LG, et, eL, dL, eG, by omega, ok, fsok, yn⟩ (h3.mono (by omega)) (b12.trans b3)
    · refine LK.ifF (decide_eq_false dd) ?_
      refine ⟨_, rfl, _, rfl, _, rfl, c, ya, 4, 5, most, _, ys, rfl, by decide, by decide, by decide, m1, h2, by omega, eys2, yne, by omega, fun t ca H3 y n cs st cxs nca et eca dca h3 b3 hn hcs wk => ?_⟩
      refine ⟨t, _, rfl, SqT.of et, rfl, _, _, rfl, _, _, rfl, _, _, rfl, rfl, ?_⟩
      have b13 := b12.trans b3
      obtain ⟨good, gl⟩ := wk.good
      have gll := good.lens
      refine ⟨_, rfl, _, rfl, _, rfl, y, n, ca, cxs, cs, rfl, SqL.of eca, dca, by omega, by omega, wk.sq, wk.bd (by omega), fun v H4 s4 yes no => ?_⟩
      obtain ⟨t2, L, T, D, xs, rfl, nL, nT, nD, et2, eL, dL, eT, eD⟩ := yes st wk.ok
      refine ⟨t2, _, rfl, SqT.of et2, rfl, _, _, rfl, _, _, rfl, _, _, rfl, rfl, ?_⟩
      have h4 := h3.same s4
      have b14 := b13.trans (Bt.of s4)
      refine ⟨_, rfl, _, rfl, _, rfl, T, D, _, _, rfl, rfl, eT, eD, ?_, fun p np => ?_⟩
      · rw [List.length_map, List.length_map]
        omega
      have s5 := same_new (o := .lst (st.2.1.map V.int ++ st.2.2.map V.int)) np
      refine ⟨p, st.2.1 ++ st.2.2, rfl, SqL.of (by rw [upd_same, List.map_append]), fun ns G perm pw nG => ⟨by show 2 ≤ sizeLine; decide, fun t3 nt3 => ?_⟩⟩
      have s6 := s5.trans (same_new (o := .lst (ns.map V.int)) nG)
      have s7 := s6.trans (same_new (o := .tup [.ref L, .ref G]) nt3)
      have nG4 := gone s5 nG
      refine k t3 L G _ ys st.1 xs ns ⟨gone_bt h3 b13 nL, gone_bt h4 b14 nG4, ne_of_none eL nG4, upd_same, s7 _ _ eL, dps_same s7 dL, same_new nt3 _ _ upd_same, by omega, good.ls, ⟨perm.nodup_iff.mpr good.nd, fun x hx => good.rg x (perm.mem_iff.mp hx)⟩, yn⟩ ((h4.same s7).mono (by omega)) (b14.trans (Bt.of s7))
end
end B7
/-! What stands behind cuts, as a function of data; _law_upright, _law_fallen. -/
namespace B7
open PySem PySem.Spec PyProof.Rows L2 LK MXo
def parOf (ls : List Lp) (j : Nat) : List Int := match ls[j]? with
  | some l => l.2
  | none => []
def upB (ls : List Lp) (fs cuts : List Int) (f : List Nat) (k : Nat) : Bool := decide ((k : Int) ∉ cuts) && (decide ((k : Int) ∈ fs) || f.any fun j => decide ((k : Int) ∈ parOf ls j))
/-- what stands of the last m loops, from the last one down -/
def upL (ls : List Lp) (fs cuts : List Int) : Nat → List Nat
  | 0 => []
  | m + 1 => if upB ls fs cuts (upL ls fs cuts m) (ls.length - 1 - m) = true then upL ls fs cuts m ++ [ls.length - 1 - m] else upL ls fs cuts m
def fallD (ls : List Lp) (fs cuts : List Int) : List Nat := (List.range ls.length).filter fun k => decide (k ∉ upL ls fs cuts ls.length)
theorem upL_len (ls : List Lp) (fs cuts : List Int) : ∀ m, (upL ls fs cuts m).length ≤ m
  | 0 => Nat.le_refl _
  | m + 1 => by
    have := upL_len ls fs cuts m
    unfold upL
    split
    · rw [List.length_append, List.length_singleton]
      omega
    · omega
theorem upL_lt {ls : List Lp} {fs cuts : List Int} : ∀ {m k : Nat}, m ≤ ls.length → k ∈ upL ls fs cuts m → k < ls.length
  | 0, k, _, h => absurd h List.not_mem_nil
  | m + 1, k, l, h => by
    unfold upL at h
    split at h
    · rcases List.mem_append.mp h with h | h
      · exact upL_lt (by omega) h
      · rw [List.mem_singleton.mp h]
        omega
    · exact upL_lt (by omega) h
theorem upL_cut {ls : List Lp} {fs cuts : List Int} : ∀ {m k : Nat}, k ∈ upL ls fs cuts m → (k : Int) ∉ cuts
  | 0, k, h => absurd h List.not_mem_nil
  | m + 1, k, h => by
    unfold upL at h
    split at h
    · rename_i b
      rcases List.mem_append.mp h with h | h
      · exact upL_cut h
      · rw [List.mem_singleton.mp h]
        unfold upB at b
        rw [Bool.and_eq_true] at b
        exact of_decide_eq_true b.1
    · exact upL_cut h
theorem upL_sub {ls : List Lp} {fs cuts : List Int} {m k : Nat} (h : k ∈ upL ls fs cuts m) : ∀ d, k ∈ upL ls fs cuts (m + d)
  | 0 => h
  | d + 1 => by
    have := upL_sub h d
    show k ∈ upL ls fs cuts (m + d + 1)
    unfold upL
    split
    · exact List.mem_append_left _ this
    · exact this
theorem upL_mono {ls : List Lp} {fs c1 c2 : List Int} {n : Nat} (h : ∀ k ∈ upL ls fs c1 n, (k : Int) ∉ c2) : ∀ {m k : Nat}, m ≤ n → k ∈ upL ls fs c1 m → k ∈ upL ls fs c2 m
  | 0, k, _, hk => absurd hk List.not_mem_nil
  | m + 1, k, l, hk => by
    have all := hk
    unfold upL at hk
    split at hk
    · rename_i b
      rcases List.mem_append.mp hk with hk | hk
      · exact upL_sub (upL_mono h (by omega) hk) 1
      · have e := List.mem_singleton.mp hk
        subst e
        have nc := h _ (by
          have := upL_sub all (n - (m + 1))
          rwa [show m + 1 + (n - (m + 1)) = n by omega] at this)
        have b2 : upB ls fs c2 (upL ls fs c2 m) (ls.length - 1 - m) = true := by
          unfold upB at b ⊢
          rw [Bool.and_eq_true, Bool.or_eq_true] at b ⊢
          refine ⟨decide_eq_true nc, b.2.imp id fun q => ?_⟩
          obtain ⟨j, hj, hp⟩ := List.any_eq_true.mp q
          exact List.any_eq_true.mpr ⟨j, upL_mono h (by omega) hj, hp⟩
        unfold upL
        rw [if_pos b2]
        exact List.mem_append_right _ (List.mem_singleton.mpr rfl)
    · exact upL_sub (upL_mono h (by omega) hk) 1
theorem upL_cong {ls : List Lp} {fs c1 c2 : List Int} (h : ∀ k : Nat, k < ls.length → ((k : Int) ∈ c1 ↔ (k : Int) ∈ c2)) : ∀ {m : Nat}, m ≤ ls.length → upL ls fs c1 m = upL ls fs c2 m
  | 0, _ => rfl
  | m + 1, l => by
    have ih := upL_cong (fs := fs) h (m := m) (by omega)
    unfold upL
    have e : upB ls fs c1 (upL ls fs c1 m) (ls.length - 1 - m) = upB ls fs c2 (upL ls fs c2 m) (ls.length - 1 - m) := by
      rw [ih]
      unfold upB
      have := h (ls.length - 1 - m) (by omega)
      simp only [this]
    rw [e, ih]
theorem fall_mem {ls : List Lp} {fs cuts : List Int} {k : Nat} : k ∈ fallD ls fs cuts ↔ k < ls.length ∧ k ∉ upL ls fs cuts ls.length := by
  unfold fallD
  rw [List.mem_filter, List.mem_range, decide_eq_true_eq]
theorem fall_cut {ls : List Lp} {fs cuts : List Int} {k : Nat} (h : k < ls.length) (c : (k : Int) ∈ cuts) : k ∈ fallD ls fs cuts :=
  fall_mem.mpr ⟨h, fun u => upL_cut u c⟩
/-- the least of all that have run -/
theorem fall_least {ls : List Lp} {fs c1 c2 : List Int} (h : ∀ k : Nat, k < ls.length → (k : Int) ∈ c2 → k ∈ fallD ls fs c1) : ∀ k ∈ fallD ls fs c2, k ∈ fallD ls fs c1 := fun k hk => by
  obtain ⟨a, b⟩ := fall_mem.mp hk
  refine fall_mem.mpr ⟨a, fun u => b (upL_mono (n := ls.length) (fun j hj hc => ?_) (Nat.le_refl _) u)⟩
  exact (fall_mem.mp (h j (upL_lt (Nat.le_refl _) hj) hc)).2 hj
theorem fall_cong {ls : List Lp} {fs c1 c2 : List Int} (h : ∀ k : Nat, k < ls.length → ((k : Int) ∈ c1 ↔ (k : Int) ∈ c2)) : fallD ls fs c1 = fallD ls fs c2 := by
  unfold fallD
  rw [upL_cong h (Nat.le_refl _)]
abbrev nI (ks : List Nat) : List V := ks.map fun k : Nat => V.int (k : Int)
theorem nI_ints (ks : List Nat) : nI ks = (ks.map fun k : Nat => (k : Int)).map V.int := by
  unfold nI
  rw [List.map_map]
  rfl
theorem flat_nI (ks : List Nat) : (nI ks).all flatV = true := by
  rw [nI_ints]
  exact flat_ints _
theorem inV_nI (i : Nat) (ks : List Nat) : inV (.int (i : Int)) (nI ks) = decide (i ∈ ks) := by
  rw [nI_ints, inV_int]
  congr 1
  rw [List.mem_map]
  exact propext ⟨fun ⟨k, hk, e⟩ => by rwa [show i = k by omega], fun h => ⟨i, h, rfl⟩⟩
abbrev sUpr : Stmt := top 35
abbrev sFal : Stmt := top 36
theorem scUpr : FnScope ["loops_here", "fast_here", "cuts_here", "found", "k", "kids", "one"] ["loops_here", "fast_here", "cuts_here"] (defScope sUpr) := ⟨rfl, rfl, rfl, by decide +kernel, rfl, by decide +kernel, by decide +kernel⟩
theorem scFal : FnScope ["loops_here", "fast_here", "cuts_here", "upright", "k"] ["loops_here", "fast_here", "cuts_here"] (defScope sFal) := ⟨rfl, rfl, rfl, by decide +kernel, rfl, by decide +kernel, by decide +kernel⟩
def spUpr (K : PySem.W.Frag) : Sp := fun vs H Q _ => ∃ (la fa ca : Addr) (xs : List V) (ls : List Lp) (fs cuts : List Int), vs = [.ref la, .ref fa, .ref ca] ∧ SqL K H la xs ∧ DpAll K H xs (ls.map lpD) ∧ SqL K H fa (fs.map V.int) ∧ SqL K H ca (cuts.map V.int) ∧ ls.length ≤ 10000 ∧
  ∀ (p : Addr) (H' : Hp), H p = none → Same H H' → H' p = some (.lst (nI (upL ls fs cuts ls.length).reverse)) → Q (.ref p) H'
def spFal (K : PySem.W.Frag) : Sp := fun vs H Q _ => ∃ (la fa ca : Addr) (xs : List V) (ls : List Lp) (fs cuts : List Int), vs = [.ref la, .ref fa, .ref ca] ∧ SqL K H la xs ∧ DpAll K H xs (ls.map lpD) ∧ SqL K H fa (fs.map V.int) ∧ SqL K H ca (cuts.map V.int) ∧ ls.length ≤ 10000 ∧
  ∀ (p : Addr) (H' : Hp), H p = none → Same H H' → H' p = some (.lst (nI (fallD ls fs cuts))) → Q (.ref p) H'
section
variable {P : Program} {w : World} {K : PySem.W.Frag} {mg : Str → Option Value} {base : Heap}
theorem ok_upr {f : Addr} {fd : FuncData} (F : Fun K "_law_upright" "_law_upright" sUpr f fd) (B : Bl mg) : FnOk P w K mg base CX0 1 f fd ["loops_here", "fast_here", "cuts_here"] (spUpr K) := by
  refine F.ok scUpr (fun vs H Q E h => ?_) (fun cdv A outer s H vs Q E hr h => ?_)
  · obtain ⟨la, fa, ca, _, _, _, _, rfl, _⟩ := h
    rfl
  · obtain ⟨la, fa, ca, xs, ls, fs, cuts, rfl, hl, dl, hf, hc, ln, k⟩ := h
    refine ⟨_, pss_cons (ps_set (i := 3) scUpr.nd rfl (Or.inl rfl) (pe_lst pa_nil))
      (pss_cons (ps_for PassesOwn.never rfl (pi_range3 (by rfl) (B "range" (by decide)) (pa_cons (pe_op op_sub (pe_callB call_len_seq (by rfl) (B "len" (by decide)) (by decide +kernel) (pa_cons (pv 0) pa_nil)) pe_int) (pa_cons (pe_un un_neg pe_int) (pa_cons (pe_un un_neg pe_int) pa_nil)))) (pg_name (i := 4) scUpr.nd rfl (Or.inr rfl)) (pss_cons (ps_setLc (i := 5) (own := [("one", 6)]) (g := gName 6) rfl scUpr.nd rfl rfl (sw_true rfl rfl rfl (by decide +kernel)) (pi_list (pv 3)) (blkOk_by (N := ["loops_here", "fast_here", "cuts_here", "found", "k", "kids", "one"]) (sc := defScope sUpr) (by decide +kernel)) (fun _ _ _ _ _ => pg_name (i := 6) scUpr.nd rfl (Or.inl rfl)) (fun _ _ _ _ _ => pts_one (pt_cmpR (inq (K := K)) (pv 4) (pe_ix (ixt (K := K)) (pe_ix (ixl (K := K)) (pv 0) (pv 6) (fun _ _ => rfl)) pe_int (fun _ _ => rfl)) (by rfl))) (fun _ _ _ _ _ => pv 6))
      (pss_one (ps_if (PW.pt (pw_and (pt_cmpR op_notIn_seq (pv 4) (pv 2) (by rfl)) (pw_and1 (PW.pt (pw_or (pt_cmpR op_in_seq (pv 4) (pv 1) (by rfl)) (pw_or1 (pt_cmpR (op_neD hr.units) (pv 5) (pe_lst pa_nil) (nomark _)))))))) (pss_one (ps_expr (pe_bm PySem.F.plainAttrs_list PySem.F.slot_list_append PySem.F.type_list_append mt_append (pv 3) (pa_cons (pv 4) pa_nil)))) pss_nil))))
      (pss_one (ps_ret (pe_revL (pv 3))))), ?_⟩
    have len : xs.length = ls.length := by rw [dps_len dl, List.length_map]
    have ty2 : sizeLine = 16777216 := sizeLine_eq
    refine ⟨by show 0 ≤ sizeLine; decide, fun G nG => ?_⟩
    refine ⟨_, rfl, la, xs, rfl, .inl ((same_new nG).seq hl), _, _, rfl, rfl, ?_⟩
    refine ⟨1, rfl, 1, rfl, _, _, _, _, rfl, RgC.neg (by omega) (by omega) (by omega) (by omega), ?_⟩
    have en : ((xs.length : Int) - 1 - -1).toNat = ls.length := by omega
    have nxt : ∀ {i : Nat} {o4 o5 o6 : Option V} {Hn : Hp} {u : List Nat}, upL ls fs cuts (i + 1) = u → Same H Hn → Hn G = some (.lst (nI u)) → ∃ (o4' o5' o6' : Option V), [some (V.ref la), some (.ref fa), some (.ref ca), some (.ref G), o4, o5, o6] = [some (.ref la), some (.ref fa), some (.ref ca), some (.ref G), o4', o5', o6'] ∧ Same H Hn ∧ Hn G = some (.lst (nI (upL ls fs cuts (i + 1)))) := fun e s h => ⟨_, _, _, rfl, s, by rw [e]; exact h⟩
    refine for_rangeC (lo := (xs.length : Int) - 1) (c := -1) (n := ((xs.length : Int) - 1 - -1).toNat) (fun i σ Hn => ∃ (o4 o5 o6 : Option V), σ = [some (.ref la), some (.ref fa), some (.ref ca), some (.ref G), o4, o5, o6] ∧ Same H Hn ∧ Hn G = some (.lst (nI (upL ls fs cuts i))))
      ⟨_, _, _, rfl, same_new nG, upd_same⟩ (fun i σ H2 hi hI => ?_) (fun σ H2 hI => ?_)
    · obtain ⟨o4, o5, o6, rfl, s2, eG⟩ := hI
      have ek : (xs.length : Int) - 1 + (i : Int) * (-1) = ((ls.length - 1 - i : Nat) : Int) := by omega
      rw [ek]
      generalize hk : ls.length - 1 - i = q
      have uG := upL_len ls fs cuts i
      refine ⟨_, rfl, G, rfl, ⟨_, SqL.of eG⟩, fun J nJ => ?_⟩
      have GJ : G ≠ J := ne_of_none eG nJ
      refine lc_list (K := K) (a := G) (xs := nI (upL ls fs cuts i)) (fun j H' => Same H2 H' ∧ H' J = some (.lst (nI (((upL ls fs cuts i).take j).filter fun z => decide ((q : Int) ∈ parOf ls z)))))
        ⟨same_new nJ, upd_same⟩ (fun j H' hj hh => SqL.of (hh.1 _ _ eG)) (fun j x H4 hx hh => ⟨rfl, ?_⟩) (fun H4 hh => ?_)
      · obtain ⟨s4, eJ⟩ := hh
        rw [List.getElem?_map] at hx
        obtain ⟨z, hz, rfl⟩ := Option.map_eq_some_iff.mp hx
        have zl : z < ls.length := upL_lt (by omega) (List.mem_of_getElem? hz)
        have s24 := s2.trans s4
        obtain ⟨v1, d1, q1, q2, q3⟩ := dps_at (dps_same s24 dl) (i := z) (by rw [List.length_map]; omega)
        rw [List.getElem?_map] at q2
        obtain ⟨l, hl1, rfl⟩ := Option.map_eq_some_iff.mp q2
        have ep : parOf ls z = l.2 := by unfold parOf; rw [hl1]
        have tk : (upL ls fs cuts i).take (j + 1) = (upL ls fs cuts i).take j ++ [z] := by rw [List.take_add_one, hz]; rfl
        cases q3 with
        | tup st da =>
          cases da with
          | cons d1 da =>
            cases d1
            cases da with
            | cons d2 dn =>
              cases dn
              cases d2 with
              | tup st2 da2 =>
                have ex := dp_ints da2
                subst ex
                refine ⟨_, rfl, _, rfl, _, rfl, la, _, _, _, rfl, rfl, s24.seq hl, atI_nat q1, _, _, _, _, rfl, rfl, st, atI_nat (j := 1) rfl, ?_⟩
                refine ⟨_, _, rfl, .inr st2, rfl, flat_ints _, _, rfl, ?_⟩
                show if inV (.int (q : Int)) (l.2.map V.int) = true then _ else _
                rw [inV_int, tk, List.filter_append]
                by_cases c : (q : Int) ∈ l.2
                · rw [decide_eq_true c]
                  refine LK.ifT rfl ⟨_, rfl, _, eJ, ?_, fun b o e => ?_, ?_⟩
                  · rw [List.length_map]
                    have z := List.length_filter_le (fun z => decide ((q : Int) ∈ parOf ls z)) ((upL ls fs cuts i).take j)
                    rw [List.length_take] at z
                    omega
                  · rw [upd_ne (ne_of_none e nJ)]
                    exact s4 _ _ e
                  · rw [upd_same]
                    unfold nI
                    rw [List.map_append]
                    simp [ep, c]
                · rw [decide_eq_false c]
                  refine LK.ifF rfl ⟨s4, ?_⟩
                  rw [eJ]
                  simp [ep, c]
      · obtain ⟨s4, eJ⟩ := hh
        rw [List.length_map, List.take_length] at eJ
        have s24 := s2.trans s4
        have eG4 := s4 _ _ eG
        have uN : ∀ b, upB ls fs cuts (upL ls fs cuts i) q = b → upL ls fs cuts (i + 1) = if b = true then upL ls fs cuts i ++ [q] else upL ls fs cuts i := fun b e => by
          rw [← e, ← hk]
          rfl
        have anyE : (upL ls fs cuts i).any (fun j => decide ((q : Int) ∈ parOf ls j)) = !((upL ls fs cuts i).filter fun z => decide ((q : Int) ∈ parOf ls z)).isEmpty := by
          rw [Bool.eq_iff_iff]
          simp only [List.any_eq_true, Bool.not_eq_true', List.isEmpty_eq_false_iff, ne_eq, List.filter_eq_nil_iff]
          constructor
          · rintro ⟨j, hj, hp⟩ e
            exact e j hj hp
          · intro e
            exact Classical.byContradiction fun n => e fun j hj hp => n ⟨j, hj, hp⟩
        have room : (nI (upL ls fs cuts i)).length < sizeLine := by
          rw [List.length_map]
          omega
        refine ⟨_, rfl, _, rfl, ca, _, rfl, .inl (s24.seq hc), rfl, flat_ints _, _, rfl, ?_⟩
        show if (!inV (.int (q : Int)) (cuts.map V.int)) = true then _ else _
        rw [inV_int]
        by_cases c1 : (q : Int) ∈ cuts
        · rw [decide_eq_true c1]
          have ub : upB ls fs cuts (upL ls fs cuts i) q = false := by
            unfold upB
            rw [decide_eq_false (fun z => z c1)]
            rfl
          exact LK.ifF rfl (nxt (uN _ ub) s24 eG4)
        rw [decide_eq_false c1]
        refine LK.ifT rfl ?_
        have add : upB ls fs cuts (upL ls fs cuts i) q = true → ∀ Hn, Same H4 Hn → Same H (upd Hn G (.lst (nI (upL ls fs cuts i) ++ [.int (q : Int)]))) ∧ upd Hn G (.lst (nI (upL ls fs cuts i) ++ [.int (q : Int)])) G = some (.lst (nI (upL ls fs cuts (i + 1)))) := fun ub Hn s => by
          refine ⟨fun b o e => ?_, ?_⟩
          · rw [upd_ne (ne_of_none e nG)]
            exact s _ _ (s24 _ _ e)
          · rw [upd_same, uN _ ub, if_pos rfl]
            unfold nI
            rw [List.map_append]
            rfl
        refine ⟨_, rfl, _, rfl, fa, _, rfl, .inl (s24.seq hf), rfl, flat_ints _, _, rfl, ?_⟩
        show if (inV (.int (q : Int)) (fs.map V.int)) = true then _ else _
        rw [inV_int]
        by_cases c2 : (q : Int) ∈ fs
        · rw [decide_eq_true c2]
          have ub : upB ls fs cuts (upL ls fs cuts i) q = true := by
            unfold upB
            rw [decide_eq_true c1, decide_eq_true c2]
            rfl
          obtain ⟨a1, a2⟩ := add ub H4 (Same.refl _)
          exact LK.ifT rfl (LK.ifT rfl ⟨_, rfl, .inl ⟨rfl, _, SqL.of eG4⟩, _, rfl, G, _, _, rfl, rfl, eG4, room, _, _, _, rfl, a1, a2⟩)
        · rw [decide_eq_false c2]
          refine LK.ifF rfl ⟨_, rfl, by show 0 ≤ sizeLine; decide, fun p np => ?_⟩
          have s5 := same_new (o := .lst []) np
          have eJ5 := s5 _ _ eJ
          rw [nI_ints] at eJ5
          refine ⟨.list (List.map PyData.int _), .list [], .lst (SqL.of eJ5) (dp_ints_of _), .lst (SqL.of upd_same) .nil, sh_ints _, sh_ints [], _, rfl, ?_⟩
          have ubE : upB ls fs cuts (upL ls fs cuts i) q = !((upL ls fs cuts i).filter fun z => decide ((q : Int) ∈ parOf ls z)).isEmpty := by
            unfold upB
            rw [decide_eq_true c1, decide_eq_false c2, anyE]
            rfl
          rw [eqv_nili, List.isEmpty_map]
          by_cases c3 : ((upL ls fs cuts i).filter fun z => decide ((q : Int) ∈ parOf ls z)).isEmpty = true
          · rw [c3] at ubE ⊢
            exact LK.ifF rfl (nxt (uN _ ubE) (s24.trans s5) (s5 _ _ eG4))
          · have c3' : ((upL ls fs cuts i).filter fun z => decide ((q : Int) ∈ parOf ls z)).isEmpty = false := by simpa using c3
            rw [c3'] at ubE ⊢
            obtain ⟨a1, a2⟩ := add ubE _ s5
            exact LK.ifT rfl ⟨_, rfl, .inl ⟨rfl, _, SqL.of (s5 _ _ eG4)⟩, _, rfl, G, _, _, rfl, rfl, s5 _ _ eG4, room, _, _, _, rfl, a1, a2⟩
    · obtain ⟨o4, o5, o6, rfl, s2, eG⟩ := hI
      rw [en] at eG
      refine ⟨_, rfl, G, _, rfl, SqL.of eG, fun p np => k p _ (gone s2 np) (s2.trans (same_new np)) ?_⟩
      rw [upd_same]
      unfold nI
      rw [List.map_reverse]
end
end B7
/-! _law_fallen, _law_some_of. -/
namespace B7
open PySem PySem.Spec PyProof.Rows L2 LK MXo
abbrev sSome : Stmt := top 38
theorem scSome : FnScope ["creel", "count", "most", "found", "turn", "spot"] ["creel", "count", "most"] (defScope sSome) := ⟨rfl, rfl, rfl, by decide +kernel, rfl, by decide +kernel, by decide +kernel⟩
/-- a list of one's own, of numbers below n, unlike -/
def spSome (K : PySem.W.Frag) : Sp := fun vs H Q _ => ∃ (c : Addr) (n most B : Nat), vs = [.ref c, .int n, .int most] ∧ n ≤ 100000 ∧ most ≤ 1000 ∧ CR H c B ∧ B + 2000 < 10 ^ 12 ∧
  ∀ (p : Addr) (H' : Hp) (ns : List Int), H p = none → CR H' c (B + 2000) → Bt c H H' → H' p = some (.lst (ns.map V.int)) → ns.length ≤ most → OkFs n ns → Q (.ref p) H'
section
variable {P : Program} {w : World} {K : PySem.W.Frag} {mg : Str → Option Value} {base : Heap}
theorem ok_fal {f fu : Addr} {fd fdu : FuncData} (F : Fun K "_law_fallen" "_law_fallen" sFal f fd) (Fu : Fun K "_law_upright" "_law_upright" sUpr fu fdu) (B : Bl mg) (gu : mg "_law_upright" = some (.ref fu)) (bu : Binds K fdu ["loops_here", "fast_here", "cuts_here"] []) (Gu : FnOk P w K mg base CX0 1 fu fdu ["loops_here", "fast_here", "cuts_here"] (spUpr K)) :
    FnOk P w K mg base CX0 2 f fd ["loops_here", "fast_here", "cuts_here"] (spFal K) := by
  refine F.ok scFal (fun vs H Q E h => ?_) (fun cdv A outer s H vs Q E hr h => ?_)
  · obtain ⟨la, fa, ca, _, _, _, _, rfl, _⟩ := h
    rfl
  · obtain ⟨la, fa, ca, xs, ls, fs, cuts, rfl, hl, dl, hf, hc, ln, k⟩ := h
    refine ⟨_, pss_cons (ps_set (i := 3) scFal.nd rfl (Or.inr rfl) (pe_call (E := E0) Gu (hr.mono (by decide)) rfl gu Fu.kp bu .nil pass0 (pa_cons (pv 0) (pa_cons (pv 1) (pa_cons (pv 2) pa_nil)))))
      (pss_one (ps_ret (pe_lc (own := [("k", 4)]) (g := gName 4) rfl scFal.nd (pi_range1 (by rfl) (B "range" (by decide)) (pa_cons (pe_callB call_len_seq (by rfl) (B "len" (by decide)) (by decide +kernel) (pa_cons (pv 0) pa_nil)) pa_nil)) (blkOk_by (N := ["loops_here", "fast_here", "cuts_here", "upright", "k"]) (sc := defScope sFal) (by decide +kernel)) (fun _ _ _ _ _ => pg_name (i := 4) scFal.nd rfl (Or.inl rfl)) (fun _ _ _ _ _ => pts_one (pt_cmpR (ninq (K := K)) (pv 4) (pv 3) (by rfl))) (fun _ _ _ _ _ => pv 4)))), ?_⟩
    have len : xs.length = ls.length := by rw [dps_len dl, List.length_map]
    have ty2 : sizeLine = 16777216 := sizeLine_eq
    refine ⟨_, rfl, _, rfl, _, rfl, la, fa, ca, xs, ls, fs, cuts, rfl, hl, dl, hf, hc, ln, fun U H1 nU s1 eU => ?_⟩
    refine ⟨_, rfl, la, xs, rfl, .inl (s1.seq hl), _, rfl, by omega, by omega, fun J nJ => ?_⟩
    have UJ : U ≠ J := ne_of_none eU nJ
    refine lc_range (lo := 0) (n := xs.length) (fun j H' => Same H1 H' ∧ H' J = some (.lst (nI ((List.range j).filter fun k => decide (k ∉ upL ls fs cuts ls.length)))))
      ⟨same_new nJ, upd_same⟩ (fun j H2 hj hh => ⟨rfl, ?_⟩) (fun H2 hh => ?_)
    · obtain ⟨s2, eJ⟩ := hh
      refine ⟨_, rfl, _, rfl, U, _, rfl, .inl (SqL.of (s2 _ _ eU)), rfl, flat_nI _, _, rfl, ?_⟩
      rw [Int.zero_add]
      show if (!inV (.int (j : Int)) (nI (upL ls fs cuts ls.length).reverse)) = true then _ else _
      rw [inV_nI, filt_more]
      by_cases c : j ∈ upL ls fs cuts ls.length
      · rw [decide_eq_true (List.mem_reverse.mpr c)]
        refine LK.ifF rfl ⟨s2, ?_⟩
        rw [eJ]
        simp [c]
      · rw [decide_eq_false (fun z => c (List.mem_reverse.mp z))]
        refine LK.ifT rfl ⟨_, rfl, _, eJ, ?_, fun b o e => ?_, ?_⟩
        · rw [List.length_map]
          have z := List.length_filter_le (fun k => decide (k ∉ upL ls fs cuts ls.length)) (List.range j)
          rw [List.length_range] at z
          omega
        · rw [upd_ne (ne_of_none e nJ)]
          exact s2 _ _ e
        · rw [upd_same]
          unfold nI
          rw [List.map_append]
          simp [c]
    · obtain ⟨s2, eJ⟩ := hh
      rw [len] at eJ
      exact k J _ (gone s1 nJ) (s1.trans s2) eJ
theorem ok_some {f fp : Addr} {fd fdp : FuncData} (F : Fun K "_law_some_of" "_law_some_of" sSome f fd) (Fp : Fun K "_law_ply" "_law_ply" sPly fp fdp) (B : Bl mg) (gp : mg "_law_ply" = some (.ref fp)) (bp : Binds K fdp ["creel", "span"] []) (Gp : FnOk P w K mg base CX0 1 fp fdp ["creel", "span"] spPly) :
    FnOk P w K mg base CX0 2 f fd ["creel", "count", "most"] (spSome K) := by
  refine F.ok scSome (fun vs H Q E h => ?_) (fun cdv A outer s H vs Q E hr h => ?_)
  · obtain ⟨c, n, most, bb, rfl, _⟩ := h
    rfl
  · obtain ⟨c, n, most, bb, rfl, hn, hm, hc, hB, k⟩ := h
    refine ⟨_, pss_cons (ps_set (i := 3) scSome.nd rfl (Or.inl rfl) (pe_lst pa_nil))
      (pss_cons (ps_for PassesOwn.never rfl (pi_range1 (by rfl) (B "range" (by decide)) (pa_cons (pe_call (E := E0) Gp (hr.mono (by decide)) rfl gp Fp.kp bp .nil pass0 (pa_cons (pv 0) (pa_cons (pe_op op_add (pv 2) pe_int) pa_nil))) pa_nil)) (pg_name (i := 4) scSome.nd rfl (Or.inl rfl)) (pss_cons (ps_set (i := 5) scSome.nd rfl (Or.inl rfl) (pe_ifExp (pt_cmpR op_gt (pv 1) pe_int (nomark _)) (pe_call (E := E0) Gp (hr.mono (by decide)) rfl gp Fp.kp bp .nil pass0 (pa_cons (pv 0) (pa_cons (pv 1) pa_nil))) pe_int))
      (pss_one (ps_if (PW.pt (pw_and (pt_cmpR (ninq (K := K)) (pv 5) (pv 3) (by rfl)) (pw_and1 (pt_cmpR op_gt (pv 1) pe_int (nomark _))))) (pss_one (ps_expr (pe_bm PySem.F.plainAttrs_list PySem.F.slot_list_append PySem.F.type_list_append mt_append (pv 3) (pa_cons (pv 5) pa_nil)))) pss_nil))))
      (pss_one (ps_ret (pv 3)))), ?_⟩
    have ty2 : sizeLine = 16777216 := sizeLine_eq
    refine ⟨by show 0 ≤ sizeLine; decide, fun G nG => ?_⟩
    have cG : c ≠ G := hc.fresh nG
    refine ⟨_, rfl, _, rfl, _, _, rfl, rfl, c, _, _, rfl, by omega, by omega, hc.upd cG.symm, by omega, fun d0 H1 d00 d01 h1 b1 n1 => ⟨d0, rfl, by omega, by omega, ?_⟩⟩
    have b01 : Bt c H H1 := (Bt.of (same_new nG)).trans b1
    refine for_range (lo := 0) (n := d0.toNat) (fun i σ Hn => ∃ (ns : List Int) (o4 o5 : Option V), σ = [some (.ref c), some (.int n), some (.int most), some (.ref G), o4, o5] ∧ CR Hn c (bb + 1 + i) ∧ Bt c H Hn ∧ Hn G = some (.lst (ns.map V.int)) ∧ ns.length ≤ i ∧ OkFs n ns)
      ⟨[], _, _, rfl, h1, b01, b1 _ _ cG.symm upd_same, Nat.zero_le _, ⟨List.nodup_nil, fun x h => absurd h List.not_mem_nil⟩⟩ (fun i σ H2 hi hI => ?_) (fun σ H2 hI => ?_)
    · obtain ⟨ns, o4, o5, rfl, h2, b2, eG, nl, ok⟩ := hI
      dsimp only [tSeq, tAsg, gName]
      refine exK2 (fun x H' => ∃ z : Int, x = .int z ∧ (0 < n → 0 ≤ z ∧ z < (n : Int)) ∧ CR H' c (bb + 1 + (i + 1)) ∧ Bt c H2 H') (fun Q' q' => ?_) ?_
      · refine ⟨_, rfl, _, _, rfl, rfl, _, rfl, ?_⟩
        by_cases z : 0 < (n : Int)
        · refine LK.ifT (decide_eq_true z) ⟨_, rfl, _, rfl, c, _, _, rfl, z, by omega, h2, by omega, fun d H3 d0 d1 h3 b3 n3 => q' _ _ ⟨d, rfl, fun _ => ⟨d0, d1⟩, h3, b3⟩⟩
        · exact LK.ifF (decide_eq_false z) (q' _ _ ⟨0, rfl, fun e => absurd e (by omega), h2.mono (by omega), Bt.refl _ _⟩)
      rintro x H3 ⟨z, rfl, hz, h3, b3⟩
      have eG3 := b3 _ _ cG.symm eG
      have b03 := b2.trans b3
      refine ⟨_, rfl, _, rfl, G, _, rfl, .inl (SqL.of eG3), rfl, flat_ints ns, _, rfl, ?_⟩
      show if (!inV (.int z) (ns.map V.int)) = true then _ else _
      rw [inV_int]
      by_cases c1 : z ∈ ns
      · rw [decide_eq_true c1]
        exact LK.ifF rfl ⟨ns, _, _, rfl, h3, b03, eG3, by omega, ok⟩
      · rw [decide_eq_false c1]
        refine LK.ifT rfl ⟨_, rfl, _, _, rfl, rfl, _, rfl, ?_⟩
        by_cases c2 : 0 < (n : Int)
        · have zr := hz (by omega)
          refine LK.ifT (decide_eq_true c2) ⟨_, rfl, .inl ⟨rfl, _, SqL.of eG3⟩, _, rfl, G, _, _, rfl, rfl, eG3, ?_, ns ++ [z], _, _, rfl, h3.upd cG.symm, fun b u n e => ?_, ?_, ?_, ?_⟩
          · rw [List.length_map]
            omega
          · rw [upd_ne (ne_of_none e nG)]
            exact b03 b u n e
          · rw [upd_same, List.map_append]
            rfl
          · rw [List.length_append, List.length_singleton]
            omega
          · refine ⟨List.nodup_append.mpr ⟨ok.1, by simp, fun a ha b hb e => by obtain rfl := List.mem_singleton.mp hb; exact c1 (e ▸ ha)⟩, fun x hx => ?_⟩
            rcases List.mem_append.mp hx with hx | hx
            · exact ok.2 x hx
            · rw [List.mem_singleton.mp hx]
              exact zr
        · exact LK.ifF (decide_eq_false c2) ⟨ns, _, _, rfl, h3, b03, eG3, by omega, ok⟩
    · obtain ⟨ns, o4, o5, rfl, h2, b2, eG, nl, ok⟩ := hI
      exact ⟨_, rfl, k G _ ns nG (h2.mono (by omega)) b2 eG (by omega) ok⟩
end
end B7
/-! Small facts. -/
namespace B7
open PySem PySem.Spec PyProof.Rows L2 LK
theorem OkFs.filt {n : Nat} {ns : List Int} {f : Int → Bool} (h : OkFs n ns) : OkFs n (ns.filter f) := ⟨h.1.filter f, fun x hx => h.2 x (List.mem_filter.mp hx).1⟩
theorem OkFs.take {n : Nat} {ns : List Int} (k : Nat) (h : OkFs n ns) : OkFs n (ns.take k) := ⟨h.1.sublist (List.take_sublist k ns), fun x hx => h.2 x (List.mem_of_mem_take hx)⟩
theorem OkFs.nil {n : Nat} : OkFs n [] := ⟨List.nodup_nil, fun x h => absurd h List.not_mem_nil⟩
theorem OkFs.len {n : Nat} {ns : List Int} (h : OkFs n ns) : ns.length ≤ n := ints_len h.1 h.2
theorem inV_nI' (i : Int) (ks : List Nat) : inV (.int i) (nI ks) = decide (i ∈ ks.map fun k : Nat => (k : Int)) := by
  rw [nI_ints, inV_int]
theorem cr_ne {H : Hp} {c p : Addr} {B : Nat} (h : CR H c B) (n : H p = none) : p ≠ c := fun e => by
  subst e
  obtain ⟨_, _, _, e, _⟩ := h
  rw [e] at n
  cases n
theorem pi_listK {X : Cx} {K : PySem.W.Frag} {tg l : Expr} {tl : TE} (hl : PE X l tl) (e : X.K = K := by rfl) : PI X tg l (iList K tl) := e ▸ pi_list hl
theorem nI_nil (ns : List Int) : (ns.map V.int).isEmpty = ns.isEmpty := List.isEmpty_map
theorem memI {k : Nat} {r : List Nat} : ((k : Int) ∈ r.map fun k : Nat => (k : Int)) ↔ k ∈ r := by
  rw [List.mem_map]
  exact ⟨fun ⟨z, hz, e⟩ => by rwa [show k = z by omega], fun h => ⟨k, h, rfl⟩⟩
theorem upL_ms {ls : List Lp} {fs ms cuts : List Int} (h : ∀ x, x ∈ ms ↔ x ∈ fs) : ∀ m, upL ls ms cuts m = upL ls fs cuts m
  | 0 => rfl
  | m + 1 => by
    unfold upL
    rw [upL_ms h m]
    have : upB ls ms cuts (upL ls fs cuts m) (ls.length - 1 - m) = upB ls fs cuts (upL ls fs cuts m) (ls.length - 1 - m) := by
      unfold upB
      simp only [h]
    rw [this]
theorem fall_ms {ls : List Lp} {fs ms cuts : List Int} (h : ∀ x, x ∈ ms ↔ x ∈ fs) : fallD ls ms cuts = fallD ls fs cuts := by
  unfold fallD
  rw [upL_ms h]
end B7
namespace B7
open PySem PySem.Spec PyProof.Rows L2 LK
abbrev sPl : Stmt := inClass (top 33) 1
abbrev sPf : Stmt := inClass (top 33) 2
abbrev sLn : Stmt := inClass (top 33) 9
/-- a new list with the field's items -/
def spCopy (K : PySem.W.Frag) (C : Addr) (fl : Str) : Sp := fun vs H Q _ => ∃ (x dx L : Addr) (fs : List (Str × V)) (xs : List V), vs = [.ref x] ∧ H x = some (.ins C dx fs) ∧ Cls K C ∧ NoAttr K C fl ∧ fs.lookup fl = some (.ref L) ∧ H L = some (.lst xs) ∧ ∀ p, H p = none → Q (.ref p) (upd H p (.lst xs))
def spSize (K : PySem.W.Frag) (C : Addr) : Sp := fun vs H Q _ => ∃ (x dx L : Addr) (fs : List (Str × V)) (xs : List V), vs = [.ref x] ∧ H x = some (.ins C dx fs) ∧ Cls K C ∧ NoAttr K C "_loops" ∧ fs.lookup ("_loops" : Str) = some (.ref L) ∧ H L = some (.lst xs) ∧ Q (.int (xs.length : Nat)) H
section
variable {P : Program} {w : World} {K : PySem.W.Frag} {mg : Str → Option Value} {base : Heap} {C : Addr}
theorem scPl : FnScope ["self"] ["self"] (defScope sPl) := ⟨rfl, rfl, rfl, by decide +kernel, rfl, by decide +kernel, by decide +kernel⟩
theorem scPf : FnScope ["self"] ["self"] (defScope sPf) := ⟨rfl, rfl, rfl, by decide +kernel, rfl, by decide +kernel, by decide +kernel⟩
theorem scLn : FnScope ["self"] ["self"] (defScope sLn) := ⟨rfl, rfl, rfl, by decide +kernel, rfl, by decide +kernel, by decide +kernel⟩
theorem ok_Pl {f : Addr} {fd : FuncData} (F : Fun K "loops" "Cloth.loops" sPl f fd) (B : Bl mg) : FnOk P w K mg base CX0 1 f fd ["self"] (spCopy K C "_loops") := by
  refine F.ok scPl (fun vs H Q E h => ?_) (fun cdv A outer s H vs Q E hr h => ?_)
  · obtain ⟨x, dx, L, fs, xs, rfl, _⟩ := h
    rfl
  · obtain ⟨x, dx, L, fs, xs, rfl, hx, c, n, lk, hL, k⟩ := h
    refine ⟨_, pss_one (ps_ret (pe_callTy call_list_of (by rfl) (B "list" (by decide)) (by decide +kernel) (pa_cons (pe_fld (pv 0) rfl) pa_nil))), ?_⟩
    exact ⟨_, rfl, x, C, dx, fs, _, rfl, hx, c, n, lk, L, xs, rfl, .inl (SqL.of hL), k⟩
theorem ok_Pf {f : Addr} {fd : FuncData} (F : Fun K "fast" "Cloth.fast" sPf f fd) (B : Bl mg) : FnOk P w K mg base CX0 1 f fd ["self"] (spCopy K C "_fast") := by
  refine F.ok scPf (fun vs H Q E h => ?_) (fun cdv A outer s H vs Q E hr h => ?_)
  · obtain ⟨x, dx, L, fs, xs, rfl, _⟩ := h
    rfl
  · obtain ⟨x, dx, L, fs, xs, rfl, hx, c, n, lk, hL, k⟩ := h
    refine ⟨_, pss_one (ps_ret (pe_callTy call_list_of (by rfl) (B "list" (by decide)) (by decide +kernel) (pa_cons (pe_fld (pv 0) rfl) pa_nil))), ?_⟩
    exact ⟨_, rfl, x, C, dx, fs, _, rfl, hx, c, n, lk, L, xs, rfl, .inl (SqL.of hL), k⟩
theorem ok_Ln {f : Addr} {fd : FuncData} (F : Fun K "__len__" "Cloth.__len__" sLn f fd) (B : Bl mg) : FnOk P w K mg base CX0 1 f fd ["self"] (spSize K C) := by
  refine F.ok scLn (fun vs H Q E h => ?_) (fun cdv A outer s H vs Q E hr h => ?_)
  · obtain ⟨x, dx, L, fs, xs, rfl, _⟩ := h
    rfl
  · obtain ⟨x, dx, L, fs, xs, rfl, hx, c, n, lk, hL, k⟩ := h
    refine ⟨_, pss_one (ps_ret (pe_callB call_len_seq (by rfl) (B "len" (by decide)) (by decide +kernel) (pa_cons (pe_fld (pv 0) rfl) pa_nil))), ?_⟩
    exact ⟨_, rfl, x, C, dx, fs, _, rfl, hx, c, n, lk, L, xs, rfl, .inl (SqL.of hL), k⟩
end
end B7
/-! try: .. with several clauses `except C as n`, one name for all of them. -/
namespace L2N
open PySem PySem.Spec PyProof.Rows L2
/-- a clause: its class, its suite's reading by the error's address, class and dict -/
abbrev Cls1 := Value × (Addr → Value → Option Addr → TS)
def fall (i : Nat) (D : Ends) : Ends := ⟨fun τ G => D.nx (τ.set i none) G, D.rt, fun τ G => D.bk (τ.set i none) G, fun τ G => D.ct (τ.set i none) G⟩
def wL (K : PySem.W.Frag) (i : Nat) (out : WX) (D : Ends) : List Cls1 → WX
  | [] => out
  | p :: rest => fun k d σ H => ∃ hit, PySem.W.exmOne K k p.1 = some hit ∧
    (hit = true → ∀ e, H e = none → p.2 e k d (fall i D) (σ.set i (some (.ref e))) H) ∧ (hit = false → wL K i out D rest k d σ H)
inductive AsL (X : Cx) (n : Str) : List ExceptHandler → List Cls1 → Prop
  | nil : AsL X n [] []
  | cons {y : Str} {p : Cls1} {st : Stmt} {more : List Stmt} {q1 q2 : Pos} {tail : List ExceptHandler} {rest : List Cls1} (named : Names X y p.1)
      (suite : ∀ (e : Addr) (o : Obj) (k : Value) (d : Option Addr) (held : List (Addr × Obj)), Zn k d o → (∃ fs, o.data = .fields fs) → PSs (X.suite e ((e, o) :: held)) (st :: more) (p.2 e k d)) (more_ : AsL X n tail rest) :
      AsL X n (.ExceptHandler (some (.Name y q1)) (some n) (st :: more) q2 :: tail) (p :: rest)
section
variable {X : Cx} {n : Str} {i : Nat} {body : List Stmt} {c1 : ExceptHandler} {cs : List ExceptHandler} {l : List Cls1} {pos : Pos} {tb : WX → TS} {out : WX}
theorem ps_try_asL (top : X.stack = X.env :: X.outer) (own : X.env.frame = some X.env.locals) (nd : X.N.Nodup) (at_ : X.N[i]? = some n) (lc : X.env.kindOf n = some .local) (tk : Takes X out)
    (hb : ∀ (W : WX) (held : List (Addr × Obj)) (xe : Value → Shared → Prop), Takes (X.tr held xe) W → PassesOwn (model X.prog X.w) X.A X.env xe → PSs (X.tr held xe) body (tb W))
    (clauses : AsL X n (c1 :: cs) l) : PS X (.Try body (c1 :: cs) [] [] pos) (fun D σ H => tb (wL X.K i out D l) D σ H) := by
  constructor
  intro pins s σ H D I want
  have sound := I.ok
  have frames : X.A.frames = some (X.env :: X.outer) := by
    rw [sound.frames, top]
  have place : Loc X.env.scope n := .inl lc
  apply wpAny_Try_except
  refine wpAny_mono ((hb (wL X.K i out D l) (X.pn ++ pins) _ (fun err s' flying => ?_) PassesOwn.looking).run [] s σ H D (I.toTry _) want) (fun flow s1 done => ?_) (fun _ _ z => z)
  case refine_1 =>
    rcases flying with ⟨e, B, sI, pins2, τ, G, k, d, rfl, J2, nb, up, sky, ne, os, bare, wish⟩
    have J : Inv X pins τ G sI := J2.ofTry sound
    rw [top] at sky
    show wpAny (model X.prog X.w) X.A (noteFrame (.ref e) X.env) _ _ _
    refine Sky.land Zn.steady frames own sky fun g3 landed up3 => ?_
    have J3 : Inv X pins τ G { s' with heap := g3 } := J.landed nb landed.1 (up.trans up3) os bare
    rcases landed.there with ⟨o3, f3, here3, z3, data3⟩
    have apart : e ∉ frs (X.env :: X.outer) := fun inn => by
      rcases landed.2.2.1.mem inn with ⟨_, o', here', no⟩
      rw [here3] at here'
      cases here'
      exact no _ data3
    have notL : e ≠ X.env.locals := fun z => apart (List.mem_filterMap.mpr ⟨X.env, List.mem_cons_self, by rw [own, z]⟩)
    have notF : e ∉ X.fs := fun inn => by
      rcases List.mem_filterMap.mp inn with ⟨v, hv, q⟩
      exact apart (List.mem_filterMap.mpr ⟨v, List.mem_cons_of_mem _ hv, q⟩)
    have suite3 := J3.suite here3 data3 ne notL notF
    have walk : ∀ {hs : List ExceptHandler} {m : List Cls1}, AsL X n hs m → wL X.K i out D m k d τ G → wpAny (model X.prog X.w) X.A (handleBy (.ref e) X.env hs) (SP X pins D) X.xe { s' with heap := g3 } := by
      intro hs m ok
      induction ok with
      | nil =>
        intro leaves
        apply wpAny_handleBy_nil
        rcases id landed with ⟨_, _, _, oe, fs, T, oT, _, here, _, data, one, _⟩
        unfold PySem.passOn
        refine wpAny_bind (wpAny_field here data one ?_)
        rw [if_neg (show ¬ ((Value.ref T == Value.none) = true) from by simp)]
        have off : wpAny (model X.prog X.w) X.A (setFlight (.ref e) X.env.frame) (fun _ s4 => wpAny (model X.prog X.w) X.A (throw (.ref e) : Sem Flow) (SP X pins D) X.xe s4) X.xe { s' with heap := g3 } := by
          rw [own]
          refine HandSPX.setFlight_upZ landed fun g4 hop up4 => wpAny_throw (tk _ _ ?_)
          exact ⟨e, B, sI, pins, τ, G, k, d, rfl, J, nb, (up.trans up3).trans up4, .inr (.inr (by rw [top]; exact hop)), ne, os, bare, leaves⟩
        first
          | exact wpAny_bind (wpAny_pure (wpAny_bind off))
          | exact wpAny_bind off
      | @cons y p st more q1 q2 tail rest named suite r ih =>
        rintro ⟨hit, known, yes, no⟩
        refine wpAny_handleBy_cons (codeAny_handlers_test ?_) (by intro q; cases q)
        have looks : PySem.W.Looks (model X.prog X.w) g3 (typeOf (.ref e)) k := fun _ _ _ _ keep q => wpAny_typeOf_ref (keep _ _ here3) (by rw [z3.1]; exact q)
        have met := PySem.W.exm_one (M := model X.prog X.w) (J3.kIn) looks known
        have read : ∀ {Q E : Value → Shared → Prop}, Q p.1 { s' with heap := g3 } → wpAny (model X.prog X.w) (X.A.mark (some (.ref e))) (eval (.Name y q1) X.env) Q E { s' with heap := g3 } := fun {Q E} q => by
          rcases named with ⟨gl, nodbg, own' | ⟨none', blt, nn⟩⟩
          · exact ld_glob (X := X.suite e ((e, o3) :: (X.pn ++ pins))) suite3 gl own' q nodbg
          · exact ld_blt (X := X.suite e ((e, o3) :: (X.pn ++ pins))) suite3 gl none' blt q nn nodbg
        apply read
        apply met.here
        cases hit with
        | false => exact ih (no rfl)
        | true =>
          apply codeAny_handlers_suite_as
          refine HandSPX.lands_againZ landed fun g4 landed4 up4 => ?_
          have J4 : Inv X pins τ G { s' with heap := g4 } := J.landed nb landed4.1 ((up.trans up3).trans up4) os bare
          rcases landed4.there with ⟨o4, f4, here4, z4, data4⟩
          have suite4 := J4.suite here4 data4 ne notL notF
          refine store_ok (X := X.suite e ((e, o4) :: (X.pn ++ pins))) (v := .ref e) suite4 nd at_ place rfl (fun s5 I5 => ?_) (.inr lc)
          refine wpAny_mono ((suite e o4 k d (X.pn ++ pins) z4 ⟨_, data4⟩).run [] s5 _ G _ I5 (yes rfl e ne)) (fun flow s6 done => ?_) (fun _ _ z => z.elim)
          cases flow with
          | ret u =>
            rcases done with ⟨v, τ6, G6, I6, rel, q6⟩
            exact gone_ok (I6.unsuite sound) nd at_ lc fun s7 I7 => ⟨_, _, _, I7, rel, q6⟩
          | next =>
            rcases done with ⟨τ6, G6, I6, q6⟩
            exact gone_ok (I6.unsuite sound) nd at_ lc fun s7 I7 => ⟨_, _, I7, q6⟩
          | brk =>
            rcases done with ⟨τ6, G6, I6, q6⟩
            exact gone_ok (I6.unsuite sound) nd at_ lc fun s7 I7 => ⟨_, _, I7, q6⟩
          | cont =>
            rcases done with ⟨τ6, G6, I6, q6⟩
            exact gone_ok (I6.unsuite sound) nd at_ lc fun s7 I7 => ⟨_, _, I7, q6⟩
    exact walk clauses wish
  case refine_2 =>
    cases flow with
    | ret u =>
      rcases done with ⟨v, τ, G, J, rel, q⟩
      exact ⟨v, τ, G, J.ofTry sound, rel, q⟩
    | next =>
      rcases done with ⟨τ, G, J, q⟩
      exact wpAny_execs_nil ⟨τ, G, J.ofTry sound, q⟩
    | brk =>
      rcases done with ⟨τ, G, J, q⟩
      exact ⟨τ, G, J.ofTry sound, q⟩
    | cont =>
      rcases done with ⟨τ, G, J, q⟩
      exact ⟨τ, G, J.ofTry sound, q⟩
end
end L2N
/-! len(o), o of an own class with its own __len__. -/
namespace MXi
open PySem PySem.Spec PyProof.Rows L2
/-- the class has g as its __len__ -/
structure LenOf (K : PySem.W.Frag) (C g : Addr) : Prop where
  own : PySem.W.findIn K (.ref C) "__len__" = some (some (.ref g))
  isF : PySem.W.isFn K (.ref g) = true
def rLenO (C : Addr) (sp : Sp) (E : XK) : List V → Hp → VK → Prop := fun xs H Q => ∃ (a dx : Addr) (fs : List (Str × V)), xs = [.ref a] ∧ H a = some (.ins C dx fs) ∧
  sp [.ref a] H (fun v H' => ∃ n : Int, v = .int n ∧ 0 ≤ n ∧ n < 2 ^ 63 ∧ Q (.int n) H') E
section
variable {X : Cx} {CX : CXT} {k : Nat} {C g : Addr} {fd : FuncData} {ps : List Str} {sp : Sp} {E : XK}
theorem call_lenO (L : LenOf X.K C g) (F : FnOk X.prog X.w X.K X.mg X.base CX k g fd ps sp) (room : Room (k + 1) X.A) (hb : Binds X.K fd ps []) (hx : Passes CX X E) : CallR X (.builtin "len") (rLenO C sp E) := by
  intro pins s σ H xs us Q I rel want
  rcases want with ⟨a, dx, fs, rfl, here, want⟩
  obtain ⟨u, rfl, ru⟩ := vals1 rel
  obtain rfl : u = Value.ref a := ru
  rcases ins_get I.hok here with ⟨mA, O, _, _, _, _⟩
  rcases O.look with ⟨od, J, _⟩
  rcases I.fr with ⟨m, fr⟩
  have many : ([Value.ref a] ++ []).length = ps.length := F.len _ _ _ _ want
  refine PySem.W.len_K fr I.ok.mod.kin J L.own L.isF (wpAny_call ?_)
  refine codeAny_mono (F.run X.A.in1 X.stack s H ⟨[.ref a], []⟩ [.ref a] [.ref a] _ E room.in1 I.env0.in1 (hb s [.ref a] I.kIn many) (.cons rfl .nil) want) fun r s' back => ?_
  cases r with
  | error er => exact hx pins σ H s er s' I back
  | ok fl =>
    cases fl with
    | ret v =>
      obtain ⟨y, G, I3, ry, n, rfl, n0, n1, q⟩ := I.after back
      obtain ⟨t, rfl⟩ := ry
      exact ⟨⟨n0, n1⟩, .int n, G, I3.tok _, ⟨_, rfl⟩, q⟩
    | next => exact False.elim back
    | brk => exact False.elim back
    | cont => exact False.elim back
end
end MXi
/-! C(k = v, ..) of an own class whose __init__ may raise: the wish at the caller's slots. isinstance(e, (A, B)), e the error that is handled. -/
namespace MXj
open PySem PySem.Spec PyProof.Rows L2 MXe
abbrev St := L2.St
def tMakeKS (C : Addr) (m : Nat) (sp : Sp) (gV : List V → List V → List V) (E : St → XK) (tk : TA) : TE := fun σ H Q => tk σ H fun zs H2 => zs.length = m ∧ ∀ x dx, H2 x = none → H2 dx = none → dx ≠ x →
  sp (gV [.ref x] zs) (upd (upd H2 dx (.own x)) x (.ins C dx [])) (fun v H3 => v = .non ∧ Q (.ref x) H3) (E σ)
section
variable {X : Cx} {CX : CXT} {k : Nat} {f C : Addr} {fd : FuncData} {ps ks : List Str} {sp : Sp} {E : St → XK} {x : Str} {p pos : Pos} {kws : List Keyword} {tk : TA} {g : List Value → List Value → List Value} {gV : List V → List V → List V}
theorem pe_makeKS (M : Mk X.K C f) (F : FnOk X.prog X.w X.K X.mg X.base CX k f fd ps sp) (hr : Room (k + 1) X.A) (hg : Gl X x) (hm : X.mg x = some (.ref C)) (hb : KBn X.K fd ps 1 ks g gV) (hx : ∀ σ, PassesAt CX X σ (E σ)) (hkw : PK X kws tk)
    (hall : (backToKw pos (keywordEach kws X.env)).all (·.1.isSome) = true := by rfl) (hks : (backToKw pos (keywordEach kws X.env)).filterMap (·.1) = ks := by rfl) (hdb : (x == ("__debug__" : Str)) = false := by decide)
    (hpl : ((backTo pos (starEach [] X.env)).any (·.1) || (backToKw pos (keywordEach kws X.env)).any (·.1.isNone)) = false := by rfl) :
    PE X (.Call (.Name x p) [] kws pos) (tMakeKS C ks.length sp gV E tk) := by
  refine ⟨fun pins s σ H Q I h => ?_⟩
  refine wpAny_Call_Name_kw (ld_glob I hg hm ?_ hdb)
  refine PySem.W.callWith_KW0 (h₀ := X.base) I.ok.mod.kin M.kp hall ?_ hpl
  refine thn (hkw.run pos pins s σ H _ I h) fun ws s1 ⟨zs, H1, I1, rz, l2, q⟩ => ⟨I1.kIn, ?_⟩
  rw [hks]
  have want := q (s1.heap.objs.size + 1) s1.heap.objs.size (I1.hok.fresh (Nat.le_succ _)) (I1.hok.fresh (Nat.le_refl _)) (Nat.ne_of_lt (Nat.lt_succ_self _))
  have J := Inv.made (C := C) I1
  have r1 : Vals [V.ref (s1.heap.objs.size + 1)] [Value.ref (s1.heap.objs.size + 1)] := .cons rfl .nil
  have r2 := hb.rel r1 rz
  refine wpAny_call (make_map (f := f) I1.kIn M.makes M.init (beq_iff_eq.mp M.fn) (codeAny_mono
    (F.run _ X.stack _ _ ⟨[Value.ref (s1.heap.objs.size + 1)], ks.zip ws⟩ (g [Value.ref (s1.heap.objs.size + 1)] ws) _ _ (E σ) (hr.make C [] (ks.zip ws)) (J.env0.make C [] (ks.zip ws)) (hb.to _ [Value.ref (s1.heap.objs.size + 1)] ws J.kIn rfl (rz.length.symm.trans l2)) r2 want) fun r2 s2 z => ?_))
  match r2, z with
  | .error er, z => exact hx σ pins _ _ er s2 J z
  | .ok (.ret u), z =>
    obtain ⟨v, H', I3, rv, ev, q3⟩ := J.after z
    subst ev
    exact ⟨rv, ⟨V.ref (s1.heap.objs.size + 1), H', I3, rfl, q3⟩⟩
  | .ok .next, z => exact False.elim z
  | .ok .brk, z => exact False.elim z
  | .ok .cont, z => exact False.elim z
end
/-- isinstance(e, cs), e the error at a, cs a tuple of classes -/
def rIsPT (K : PySem.W.Frag) (a C d : Addr) : List V → Hp → VK → Prop := fun xs H Q => ExcC K C ∧ ∃ (tp : Addr) (cs : List V) (ws : List Value) (b : Bool) (fs : List (Str × V)), xs = [.ref a, .ref tp] ∧ H tp = some (.tup cs) ∧ Paired ClsV cs ws ∧ PySem.W.kitAny K (.ref C) ws = some b ∧ H d = some (.xd fs) ∧ Q (.bl b) H
section
variable {X : Cx} {C d : Addr} {p : Addr × Obj}
theorem call_isPT (hp : p ∈ X.pn) (ep : ErrP C d p) : CallR X (.builtin "isinstance") (rIsPT X.K p.1 C d) := by
  intro pins s σ H xs us Q I r h
  obtain ⟨ec, tp, cs, ws, b, fs, rfl, hT, k, e, hd, q⟩ := h
  obtain ⟨u1, u2, rfl, r1, r2⟩ := vals2 r
  cases (show u1 = Value.ref p.1 from r1)
  cases (show u2 = Value.ref tp from r2)
  obtain ⟨hget, _⟩ := I.pin p (List.mem_append_left _ hp)
  obtain ⟨vs, hv⟩ := ep.fs
  have hx : ObjOk X.prog X.w H s.heap d (.xd fs) := I.hok d _ hd
  obtain ⟨mA, ns, _⟩ := hx
  obtain ⟨od, hod, _⟩ := lookIn_ns ns
  have J : PySem.W.InstAt s.heap p.1 p.2 C (some od) := by
    obtain ⟨z1, z2⟩ := ep.z
    exact ⟨hget, z1, by unfold PySem.W.notCls; rw [hv] <;> rfl, by rw [z2]; exact hod⟩
  obtain ⟨_, its, rv, o, h1, h2, n, h3⟩ := (show ObjOk X.prog X.w H s.heap tp (.tup cs) from I.hok tp _ hT)
  have e3 := ClsV.all k rv
  subst e3
  obtain ⟨oc, od', dt, sl⟩ := o
  simp only at h2 h3
  subst h2 h3
  exact PySem.W.kia_tup (MXc.kit_err ec) I.kIn J h1 e (fun z => nomatch z) fun tk => ⟨.bl b, H, I.kept (t' := tk) fun _ _ z => z, rfl, q⟩
end
end MXj
/-! The law's own def where nothing is being printed: str(list) in it; its end from there. -/
namespace MXk
open PySem PySem.Spec PyProof.Rows L2
/-- a def's promise where nothing is being printed -/
structure FnG (P : Program) (w : World) (K : PySem.W.Frag) (mg : Str → Option Value) (base : Heap) (k : Nat) (f : Addr) (fd : FuncData) (ps : List Str) (sp : Sp) : Prop where
  len : ∀ vs H Q E, sp vs H Q E → vs.length = ps.length
  run : ∀ (A : Around) (outer : List Env) (s : Shared) (H : Hp) (args : Args) (us : List Value) (vs : List V) (Q : VK) (E : XK), Room k A → A.guards = some [] → Env0 P w K mg base A outer s H → BindsTo s fd args (ps.zip us) → Vals vs us → sp vs H Q E →
    codeAny (model P w) A (.call (.ref f) args) (CR CX0 outer P w H s Q E) s
section
variable {P : Program} {w : World} {K : PySem.W.Frag} {mg : Str → Option Value} {base : Heap} {k : Nat} {f : Addr} {fd : FuncData} {N ps : List Str} {sp : Sp} {x qual : Str} {st : Stmt}
theorem _root_.L2.Fun.okG (F : Fun K x qual st f fd) (S : FnScope N ps (defScope st)) (len : ∀ vs H Q E, sp vs H Q E → vs.length = ps.length)
    (body : ∀ (cdv : Value) (A : Around) (outer : List Env) (s : Shared) (H : Hp) (vs : List V) (Q : VK) (E : XK), A.guards = some [] → Room k (A.deeper (envOfC qual (defScope st) s.heap.objs.size f cdv)) → sp vs H Q E →
      ∃ t, PSs (cxOf CX0 P w K mg base N qual (defScope st) f cdv A outer s H E).nox (defBody st) t ∧ t { nx := fun _ H' => Q .non H', rt := Q } (L2.start N vs) H) : FnG P w K mg base (k + 1) f fd ps sp := by
  obtain ⟨oc, od, kV, doc, pm, an, cdv, ct, osl, rfl, lk, hcd⟩ := F.ex
  constructor
  · exact len
  · intro A outer s H args us vs Q E room none e0 bi rel hsp
    have nl := len _ _ _ _ hsp
    have up : ∀ b o, base.get? b = some o → s.heap.get? b = some o := fun b o e => (e0.bs b o e).1
    have kin : K.In s.heap := e0.mod.kin.keeps up
    have kinds : ∀ y ∈ ps.zip us, (defScope st).names.lookup y.1 = some .local ∨ ((defScope st).names.lookup y.1 = some .cell ∧ ((cellsFrom (s.heap.objs.size + 1) (defScope st).names []).lookup y.1).isSome = true) := by
      rintro ⟨n, v⟩ hy
      rcases S.par n (List.of_mem_zip hy).1 with q | q
      · exact Or.inl q
      · exact Or.inr ⟨q, PySem.W.cellsFrom_some _ _ _ (Or.inl q)⟩
    refine codeAny_call_function room.depth (kin _ _ lk) rfl S.co S.gen rfl (PySem.W.codeRec_of kin hcd) (bi _ _ _ _ (wpAny_newFunctionEnv_cells S.kind kinds fun env eqv s1 ic => ?_))
    subst eqv
    obtain ⟨t, ht, hq⟩ := body cdv A outer s H vs Q E none (room.deeper _) hsp
    have J : Inv (cxOf CX0 P w K mg base N qual (defScope st) f cdv A outer s H E) [] (L2.start N vs) H s1 := inv_start S room.hd e0 nl rel ic
    refine ⟨(e0.mod.nolimit.keeps up).keeps ic.toInCall.keep, codeAny_func (wpAny_mono (ht.nox.run [] s1 (L2.start N vs) H _ J hq) (fun fl s' z => ?_) fun e s' z => z)⟩
    have done : ∀ {σ' : L2.St} {H' : Hp} {v : V} {u : Value}, Inv (cxOf CX0 P w K mg base N qual (defScope st) f cdv A outer s H E) [] σ' H' s' → RelV v u → Q v H' → CE outer P w H s Q u s' := by
      intro σ' H' v u I r q
      exact ⟨v, H', I.os, I.bare, I.base, I.hok, r, q⟩
    match fl, z with
    | .ret u, ⟨v, σ', H', I, r, q⟩ => exact done I r q
    | .next, ⟨σ', H', I, q⟩ => exact done (v := V.non) (u := Value.none) I rfl q
    | .brk, ⟨_, _, _, q⟩ => exact False.elim q
    | .cont, ⟨_, _, _, q⟩ => exact False.elim q
end
/-- what an abstract heap must be for the script at a to be at hand -/
structure Gr (P : Program) (w : World) (K : PySem.W.Frag) (s : Shared) (a : Addr) (ns : List Int) (H : Hp) : Prop where
  only : Only H
  seq : SqL K H a (ns.map V.int)
  hok : HOk P w H s.heap
  at_ : ∀ b, H b ≠ none → b = a
  free : H a ≠ none → K.lookup a = none
theorem gr_ex {P : Program} {w : World} {K : PySem.W.Frag} {s : Shared} {a : Addr} {vs : List Value} {ns : List Int} (kin : K.In s.heap) (ha : s.heap.get? a = some { cls := .type "list", data := .seq vs.toArray }) (hi : IntsAre vs ns) (hl : ns.length ≤ sizeLine) : ∃ H, Gr P w K s a ns H := by
  have rel := vals_ints hi
  cases own : K.lookup a with
  | some o =>
    have q := kin a o own
    rw [ha] at q
    cases q
    refine ⟨fun _ => none, ⟨fun _ => Or.inl rfl, Or.inr ⟨_, vs.toArray, _, own, rfl, rfl, rfl, ?_, by simpa using rel⟩, fun b u z => ?_, fun b z => absurd rfl z, fun z => absurd rfl z⟩⟩
    · rw [List.size_toArray, hi.length]
      exact hl
    · cases (show (none : Option HO) = some u from z)
  | none =>
    refine ⟨fun b => if b = a then some (.frz { cls := .type "list", data := .seq vs.toArray } (.lst (ns.map V.int))) else none, ⟨fun b => ?_, Or.inl (Or.inr ⟨_, if_pos rfl⟩), fun b u z => ?_, fun b z => ?_, fun _ => own⟩⟩
    · by_cases e : b = a
      · exact Or.inr ⟨_, _, if_pos e⟩
      · exact Or.inl (if_neg e)
    · by_cases e : b = a
      · subst e
        cases (if_pos rfl).symm.trans z
        refine ⟨ha, ?_, vs, _, rel, ha⟩
        rw [List.length_map]
        exact hl
      · cases (if_neg e).symm.trans z
    · by_cases e : b = a
      · exact e
      · exact absurd (if_neg e) z
theorem call_law {P : Program} {w : World} {K : PySem.W.Frag} {mg mb : Str → Option Value} {k : Nat} {fa a : Addr} {fd : FuncData} {x : Str} {sp : Sp} {s : Shared} {vs : List Value} {ns : List Int}
    (kin : K.In s.heap) (hns : s.heap.Ns mainGlobals mg) (hb : s.heap.Ns builtinsNs mb) (boot : ∀ x : Str, x ≠ "__name__" → mb x = bootBuiltins x) (lim : s.heap.NoLimit) (gens : s.gens = #[])
    (ha : s.heap.get? a = some { cls := .type "list", data := .seq vs.toArray }) (hi : IntsAre vs ns) (hl : ns.length ≤ sizeLine) (room : Room k callerA)
    (F : ∀ base : Heap, K.In base → base.Ns mainGlobals mg → FnG P w K mg base k fa fd [x] sp) (bind : ∀ (s : Shared) (u : Value), BindsTo s fd ⟨[u], []⟩ [(x, u)])
    (hsp : ∀ H : Hp, Only H → SqL K H a (ns.map V.int) → sp [.ref a] H (fun v _ => v = .bl true) fun _ _ _ => False) :
    codeAny (model P w) callerA (.call (.ref fa) ⟨[.ref a], []⟩) (fun r s' => r = .ok (.ret (.bool true)) ∧ OldK s.heap s'.heap ∧ s'.os = s.os ∧ AllBare s'.gens) s := by
  obtain ⟨H, G⟩ := gr_ex (P := P) (w := w) kin ha hi hl
  have noDict : ∀ {b : Addr} {o : Obj} {es : Array DictEntry} {ep : Nat}, s.heap.get? b = some o → o.data = .dict es ep → H b = none := by
    intro b o es ep e d
    cases q : H b with
    | none => rfl
    | some u =>
      obtain rfl : b = a := G.at_ b (by rw [q]; exact nofun)
      rw [ha] at e
      cases e
      cases (show Data.seq vs.toArray _ = Data.dict es ep from d)
  have ns' : ∀ {b : Addr} {m : Str → Option Value}, s.heap.Ns b m → (hidT s.heap H).Ns b m := fun {b m} ⟨o, es, ep, e, d, r⟩ => ⟨o, es, ep, hidT_get e (noDict e d), d, r⟩
  have kin' : K.In (hidT s.heap H) := fun b o e => hidT_get (kin b o e) (by
    cases q : H b with
    | none => rfl
    | some u =>
      obtain rfl : b = a := G.at_ b (by rw [q]; exact nofun)
      rw [G.free (by rw [q]; exact nofun)] at e
      cases e)
  obtain ⟨mc, l1, l2⟩ := lim
  have mod : Mod K mg (hidT s.heap H) := ⟨kin', ns' hns, ⟨mb, ns' hb, boot⟩, mc, ns' l1, l2⟩
  have e0 : Env0 P w K mg (hidT s.heap H) callerA [] s H := ⟨rfl, mod, fun b o e => of_hidT e, Nat.le_of_eq (hidT_size _ _), True.intro, fun b inn => (List.not_mem_nil inn).elim, G.hok, .of_eq gens⟩
  have run := (F _ kin' (ns' hns)).run callerA [] s H ⟨[.ref a], []⟩ [.ref a] [.ref a] _ _ room rfl e0 (bind s (.ref a)) (.cons rfl .nil) (hsp H G.only G.seq)
  refine codeAny_mono run fun r s' z => ?_
  match r, z with
  | .error e, z => exact z.elim
  | .ok .next, z => exact False.elim z
  | .ok .brk, z => exact False.elim z
  | .ok .cont, z => exact False.elim z
  | .ok (.ret u), ⟨v, H', os, bare, un, hok', r', q⟩ =>
    cases (show v = V.bl true from q)
    cases (show u = Value.bool true from r')
    refine ⟨rfl, OldK.of_keep fun b o e => ?_, os, bare⟩
    cases q : H b with
    | none => exact un.keep b o e q (fun z => (List.not_mem_nil z).elim) (by exact List.not_mem_nil)
    | some u =>
      rcases G.only b with z | ⟨ob, xs, z⟩
      · rw [q] at z
        cases z
      · obtain ⟨here, _⟩ := G.hok b _ z
        obtain ⟨there, _⟩ := hok' b _ (un.frzs b ob _ z)
        rw [e] at here
        cases here
        exact there
/-- the goal behind the head -/
theorem walk_G {l : PySem.W.OpenLaw} {n k : Nat} {q : Program} {loose : List Str} {XP : (Str → Option Value) → Heap → Prop} {YP : World → Heap → Prop} {d : DefRec} {K : Params → PySem.W.Frag} {sp : World → Sp} {x : Str}
    (hn : l.most = some n) (hn2 : n ≤ sizeLine) (hdf : d.params.defaults = []) (hr : Room k callerA) (hY : ∀ (w : World) (h : Heap), YP w h → (K w.params).In h)
    (F : ∀ (w : World) (mg : Str → Option Value) (fa : Addr) (h : Heap), (K w.params).In h → h.Ns mainGlobals mg → mg d.name = some (.ref fa) →
      ∃ fd : FuncData, (∀ (s : Shared) (u : Value), BindsTo s fd ⟨[u], []⟩ [(x, u)]) ∧ ∀ base : Heap, (K w.params).In base → base.Ns mainGlobals mg → FnG l.prog w (K w.params) mg base k fa fd [x] (sp w))
    (hsp : ∀ (w : World) (H : Hp) (a : Addr) (ns : List Int), ns.length ≤ n → Only H → SqL (K w.params) H a (ns.map V.int) → sp w [.ref a] H (fun v _ => v = .bl true) fun _ _ _ => False) :
    PySem.W.WalkO q loose XP YP l.row.toRowW d [] (fun f vs => PySem.call f vs) := by
  refine Att.attach_call hn hdf ?_
  intro w s₀ s₁ mg mb fa o pm cd doc a vs ns G Y ho hd hcd hmg hobj hints hlen hg
  obtain ⟨fd, bind, promise⟩ := F w mg fa _ (hY w _ Y) G.T.g hmg
  exact call_law (hY w _ Y) G.T.g G.T.b G.T.builtins G.T.nolimit hg hobj hints (Nat.le_trans hlen hn2) hr promise bind fun H only seq => hsp w H a ns hlen only seq
/-- str(x), x a list or a tuple that is read as data, where nothing is being printed -/
def rStrD (K : PySem.W.Frag) : List V → Hp → VK → Prop := fun xs H Q => ∃ (a : Addr) (d : PyData), xs = [.ref a] ∧ Dp K H (.ref a) d ∧ d.showable = true ∧ d.hasDict = false ∧ d.depth ≤ 20 ∧ d.shown.length ≤ sizeLine ∧ Q (.str d.shown) H
section
variable {X : Cx}
theorem cr_strD (hg : X.A.guards = some []) (hu : X.A.units + 64 < cLine) : CallR X (.type "str") (rStrD X.K) := by
  intro pins s σ H xs us Q I r h
  obtain ⟨a, d, rfl, hd, hs, nd, dp, sz, q⟩ := h
  obtain ⟨u, rfl, ru⟩ := vals1 r
  cases (show u = Value.ref a from ru)
  obtain ⟨as, rd⟩ := Dp.reads I d _ _ hd ru
  exact str_of_reads rd hs (PyData.noDict_hsm nd) hg (by omega) (fun _ _ e => e) (fun h' u tk hk => ⟨.str d.shown, H, I.kept (t' := tk) hk, ⟨u, rfl⟩, q⟩) sz
end
end MXk
/-! x, y = a, b in an except suite. -/
namespace MXl
open PySem PySem.Spec PyProof.Rows L2 L2H HotX
section
variable {prog : Program} {w : World} {A : Around} {E : Value → Shared → Prop} {s : Shared}
/-- the end of a tuple's walk while an error is handled -/
theorem endsT {it t x1 : Addr} {i : Nat} {items : Array Value} {Q : Option Value → Shared → Prop} (hot : HotAt A x1 s.heap) (apart : x1 ≠ it) (hit : IsTupIter s.heap it t i) (ht : IsTup s.heap t items) (out : items[i]? = none)
    (k : ∀ h', Heap.ExtBut it s.heap h' → Q none { s with heap := h' }) : wpAny (model prog w) A (pyNext (.ref it)) Q E s := by
  obtain ⟨oi, gi, ci, di⟩ := id hit
  obtain ⟨ot, gt, _, m, dt⟩ := ht
  obtain ⟨hh, o1, v1, g1, d1, c1⟩ := hot
  have typ := hit.typeIs
  unfold pyNext
  apply wpAny_bind
  apply wpAny_attempt
  refine wpAny_callSpecial?_slot (name := Str.ofString "__next__") typ slot_tupleiter_next (wpAny_call_entry slot_tupleiter_next typ entry_tupleiter_next ?_ (args_tupleiter_next _))
  show wpAny _ _ (field (.ref it) 0 >>= _) _ _ _
  apply wpAny_bind
  refine wpAny_field gi di (x := .ref t) rfl ?_
  show wpAny _ _ (if (Value.ref t == Value.none) = true then _ else _) _ _ _
  rw [if_neg (by exact Bool.false_ne_true)]
  show wpAny _ _ (field (.ref it) 1 >>= _) _ _ _
  apply wpAny_bind
  refine wpAny_field gi di (x := .int i 0) rfl ?_
  show wpAny _ _ (seqItems? (.ref t) >>= _) _ _ _
  apply wpAny_bind
  refine wpAny_seqItems gt dt ?_
  simp only [Int.toNat_natCast, out]
  apply wpAny_bind
  apply wpAny_rule
  apply wpAny_bind
  refine wpAny_setField gi di (by simp) ?_
  have g1' : (s.heap.update it (Obj.mapFields (·.setIfInBounds 0 Value.none))).get? x1 = some o1 := (Heap.get?_update_other _ _ (Ne.symm apart)).trans g1
  show wpAny _ _ (newExc (.type "StopIteration") [] >>= _) _ _ _
  apply wpAny_bind
  simp only [newExc, newTuple]
  apply wpAny_bind
  refine wpAny_newObj_type ?_ (by size_fits)
  refine wpAny_bind (m := firstArgMember _ _) (wpAny_of_eq (a := Value.none) (by first | rfl | (simp only [firstArgMember]; rfl)) ?_)
  refine wpAny_newObj_type ?_ (by size_fits)
  refine raiseNew_hot ⟨hh, o1, v1, Heap.get?_push_of_some _ (Heap.get?_push_of_some _ g1'), d1, c1⟩ (Nat.ne_of_lt (Heap.lt_size (Heap.get?_push_of_some _ g1'))) (Heap.get?_push_size _ rfl) rfl (by first | (simp; done) | (simp; omega) | (simp only [Array.size_append]; simp; omega)) ?_
  apply wpAny_bind
  refine wpAny_isInstance (T := "StopIteration") (b := true) ⟨_, Heap.get?_update_self _ (Heap.get?_push_size _ rfl) rfl, rfl⟩ isSubtype_stop ?_
  refine wpAny_pure (k _ fun b o nb e => ?_)
  have e1 : (s.heap.update it (Obj.mapFields (·.setIfInBounds 0 Value.none))).get? b = some o := (Heap.get?_update_other _ _ (Ne.symm nb)).trans e
  rw [Heap.get?_update_other _ _ (Nat.ne_of_gt (Heap.lt_size (Heap.get?_push_of_some _ e1)))]
  exact Heap.get?_push_of_some _ (Heap.get?_push_of_some _ e1)
/-- a tuple taken apart while an error is handled -/
theorem apartT {t x1 : Addr} {items : Array Value} {Q : List Value → Shared → Prop} (hot : HotAt A x1 s.heap) (ht : IsTup s.heap t items) (k : ∀ h', Heap.ExtBut s.heap.objs.size s.heap h' → Q items.toList { s with heap := h' }) :
    wpAny (model prog w) A (unpackItems (.ref t) items.size none) Q E s := by
  obtain ⟨hh, o1, v1, g1, d1, c1⟩ := hot
  have new : t ≠ s.heap.objs.size := by
    obtain ⟨o, e, _⟩ := ht
    exact Nat.ne_of_lt (Heap.lt_size e)
  have far : x1 ≠ s.heap.objs.size := Nat.ne_of_lt (Heap.lt_size g1)
  unfold unpackItems
  apply wpAny_bind
  unfold notIterableAtAll
  apply wpAny_bind
  refine wpAny_specialOf ht.typeIs slot_tuple_iter.lookup ?_
  apply wpAny_pure
  simp only [Bool.false_eq_true, if_false]
  apply wpAny_bind
  refine wpAny_holding (iter_tuple ht ?_)
  apply wpAny_bind
  refine wpAny_holding (draw_tuple new items.size 0 _ _ ⟨_, Heap.get?_push_size _ rfl, rfl, rfl⟩ (ht.push _) (by omega) fun h1 it1 sb1 => ?_)
  have whole : List.take items.size (List.drop 0 items.toList) = items.toList := List.take_of_length_le (by simp)
  rw [whole, if_neg (by simp)]
  have t1 : IsTup h1 t items := (ht.push _).extBut sb1.extBut new
  apply wpAny_bind
  refine wpAny_holding (endsT ⟨hh, o1, v1, sb1.extBut _ _ far (Heap.get?_push_of_some _ g1), d1, c1⟩ far it1 t1 (by simp) fun h2 e2 => ?_)
  simp only [Option.isSome_none, Bool.false_eq_true, if_false]
  exact wpAny_pure (k h2 fun b o nb e => e2 b o nb (sb1.extBut b o nb (Heap.get?_push_of_some _ e)))
end
section
variable {X : Cx} {pos : Pos}
theorem ps_parH {i j : Nat} {x y : Str} {a b : Expr} {ta : TA} {px py pt : Pos} {kt k2 pt2} (hc : HotC X) (hN : X.N.Nodup) (hi : X.N[i]? = some x) (hj : X.N[j]? = some y) (hij : i ≠ j) (hx : X.env.scope.names.lookup x = some .local) (hy : X.env.scope.names.lookup y = some .local)
    (ha : PA X [a, b] ta) (hw : swappedStores [.Tuple [.Name x px, .Name y py] kt pt] (.Tuple [a, b] k2 pt2) X.env = pure (some [x, y])) (hs : swapsWithSole [.Tuple [.Name x px, .Name y py] kt pt] (.Tuple [a, b] k2 pt2) pos.line X.env = pure false := by rfl) :
    PS X (.Assign [.Tuple [.Name x px, .Name y py] kt pt] (.Tuple [a, b] k2 pt2) pos) (tPar i j ta) := by
  constructor
  intro pins s σ H D I want
  rw [exec_Assign_arm]
  apply wpAny_bind
  apply wpAny_standAt
  rw [hs]
  apply wpAny_bind
  apply wpAny_pure
  rw [if_neg (by decide)]
  apply wpAny_bind
  apply Tuple_
  refine thn (ha.run _ pins s σ H _ I want) fun us s1 ⟨vs, H1, I1, r1, v, w, e1, q1⟩ => ?_
  subst e1
  obtain ⟨u1, u2, rfl, rv, rw'⟩ := vals2 r1
  refine wpAny_newObj_type ?_ (by show 2 ≤ sizeLine; decide)
  have I2 : Inv X pins σ H1 { s1 with heap := s1.heap.push { cls := .type "tuple", data := .seq [u1, u2].toArray } } := I1.kept (t' := s1.toks) fun b o e => Heap.get?_push_of_some _ e
  rw [hw]
  apply wpAny_bind
  apply wpAny_pure
  show wpAny (model X.prog X.w) X.A (rule "assign.swapped-stores" >>= fun _ => unpackItems (.ref s1.heap.objs.size) 2 none >>= fun items => assignInOrder [fun v => bindName X.env y v, fun v => bindName X.env x v] items.reverse >>= fun _ => pure Flow.next) _ _ _
  apply wpAny_bind
  apply wpAny_rule
  apply wpAny_bind
  obtain ⟨x1, hot⟩ := hc.at I2
  refine apartT (items := #[u1, u2]) hot (IsTup.new s1.heap _) fun h' ext => ?_
  have I3 := I2.kept (h' := h') (t' := s1.toks) fun b o e => ext b o (Nat.ne_of_lt (Heap.lt_size e)) e
  show wpAny _ _ (assignInOrder [fun v => bindName X.env y v, fun v => bindName X.env x v] [u2, u1] >>= fun _ => pure Flow.next) _ _ _
  apply wpAny_bind
  apply assignInOrder_cons
  apply wpAny_bindName
  refine store_ok I3 hN hj (.inl hy) rw' (fun s2 I4 => ?_) (.inr hy)
  apply assignInOrder_cons
  apply wpAny_bindName
  refine store_ok I4 hN hi (.inl hx) rv (fun s3 I5 => assignInOrder_nil (wpAny_pure ?_)) (.inr hx)
  rw [List.set_comm _ _ (Ne.symm hij)] at I5
  exact ⟨_, H1, I5, q1⟩
theorem hot_suite {X : Cx} {a : Addr} {oe : Obj} {cls : Value} {d : Option Addr} {pn : List (Addr × Obj)} (hz : L2N.Zn cls d oe) (hf : ∃ vs, oe.data = .fields vs) : HotC (X.suite a ((a, oe) :: pn)) := by
  obtain ⟨vs, e⟩ := hf
  exact ⟨(a, oe), ⟨rfl, vs, e, hz.2.2 vs e⟩, List.mem_cons_self⟩
end
end MXl
namespace B7
open PySem PySem.Spec PyProof.Rows L2 L2H LK RZ MXb MXd MXe MXf MXg MXj MXl
/-- a suite's reading where the error is of an own class and has a dict -/
def tErr (t : Addr → Addr → Addr → TS) : Addr → Value → Option Addr → TS := fun a cls d => match cls, d with
  | .ref C, some dd => t a C dd
  | _, _ => fun _ _ _ => False
theorem ps_err {X : Cx} {st : List Stmt} {a : Addr} {oe : Obj} {cls : Value} {d : Option Addr} {pn : List (Addr × Obj)} {t : Addr → Addr → Addr → TS} (hz : L2N.Zn cls d oe) (hf : ∃ vs, oe.data = .fields vs)
    (h : ∀ C dd, ErrP C dd (a, oe) → PSs (X.suite a ((a, oe) :: pn)) st (t a C dd)) : PSs (X.suite a ((a, oe) :: pn)) st (tErr t a cls d) := by
  match cls, d with
  | .ref C, some dd => exact h C dd ⟨hz.zc, hf⟩
  | .ref _, none => exact pss_no
  | .none, _ => exact pss_no
  | .ellipsis, _ => exact pss_no
  | .notImplemented, _ => exact pss_no
  | .bool _, _ => exact pss_no
  | .int _ _, _ => exact pss_no
  | .float _ _, _ => exact pss_no
  | .str _ _, _ => exact pss_no
  | .bytes _ _, _ => exact pss_no
  | .type _, _ => exact pss_no
  | .builtin _, _ => exact pss_no
/-- what the law says of the errors' classes -/
structure ErK (K : PySem.W.Frag) (mg : Str → Option Value) (CR CF CL CP : Addr) : Prop where
  gR : mg "RunError" = some (.ref CR)
  gP : mg "InvalidLoop" = some (.ref CP)
  ff : PySem.W.exmOne K (.ref CF) (.ref CF) = some true
  lf : PySem.W.exmOne K (.ref CL) (.ref CF) = some false
  ll : PySem.W.exmOne K (.ref CL) (.ref CL) = some true
  fR : PySem.W.kitOne K (.ref CF) (.ref CR) = some true
  lR : PySem.W.kitOne K (.ref CL) (.ref CR) = some true
  fO : PySem.W.kitAny K (.ref CF) [.ref CL, .ref CP] = some false
  lO : PySem.W.kitAny K (.ref CL) [.ref CF, .ref CP] = some false
/-- a made cloth at x: its loops and its fast ones as they were handed in -/
def Made (K : PySem.W.Frag) (CC : Addr) (H H' : Hp) (x : Addr) (ds : List PyData) (ms : List Int) : Prop := ∃ (dx L G : Addr) (xs : List V), H x = none ∧ H L = none ∧ H G = none ∧ L ≠ G ∧ x ≠ L ∧ x ≠ G ∧
  H' x = some (.ins CC dx [("_loops", .ref L), ("_fast", .ref G)]) ∧ H' L = some (.lst xs) ∧ DpAll K H' xs ds ∧ H' G = some (.lst (ms.map V.int)) ∧ Same H H'
def spMade (K : PySem.W.Frag) (CC : Addr) : Sp := fun vs H Q _ => ∃ (way : Int) (u v : V) (d e : PyData), vs = [.int way, u, v] ∧ Dp K H u d ∧ Dp K H v e ∧ tame d = true ∧ d.canLay0 = true ∧ tame e = true ∧
  (∀ s i t H', dueD d e = some (s, i) → H t = none → H' t = some (.tup [.str s, .int i]) → Same H H' → Q (.ref t) H') ∧
  ∀ (ds : List PyData) (ns ms : List Int) (x : Addr) (H' : Hp), dueD d e = none → d = .list ds → e = .list (ns.map PyData.int) → ms.Perm ns → ms.Pairwise (· ≤ ·) → Made K CC H H' x ds ms → Q (.ref x) H'
def gKw {α : Type} : List α → List α → List α := fun us ws => match ws with
  | [a, b] => us ++ [b, a]
  | _ => []
theorem gKw_rel {vs zs : List V} {us ws : List Value} (a : Vals vs us) (b : Vals zs ws) : Vals (gKw vs zs) (gKw us ws) := by
  unfold gKw
  match b with
  | .nil => exact .nil
  | .cons _ .nil => exact .nil
  | .cons r1 (.cons r2 .nil) => exact a.append (.cons r2 (.cons r1 .nil))
  | .cons _ (.cons _ (.cons _ _)) => exact .nil
theorem due_cases {d e : PyData} {s : Str} {i : Int} (h : dueD d e = some (s, i)) : s = "loops" ∨ s = "fast" := by
  unfold dueD at h
  split at h
  · cases h
    exact .inl rfl
  · cases d with
    | list ds =>
      obtain ⟨j, _, q⟩ := Option.map_eq_some_iff.mp h
      cases q
      exact .inr rfl
    | _ => cases h
theorem sqt_but {K : PySem.W.Frag} {H H' : Hp} {x a C dx : Addr} {fs : List (Str × V)} {xs : List V} (hx : H x = some (.ins C dx fs)) (s : But x H H') (h : SqT K H a xs) : SqT K H' a xs := by
  rcases h with (h | ⟨o, h⟩) | h
  · exact .inl (.inl (s _ _ (ne_of h hx (by intro q; cases q)) h))
  · exact .inl (.inr ⟨o, s _ _ (ne_of h hx (by intro q; cases q)) h⟩)
  · exact .inr h
mutual
theorem dp_but {K : PySem.W.Frag} {H H' : Hp} {x C dx : Addr} {fs : List (Str × V)} (hx : H x = some (.ins C dx fs)) (s : But x H H') : ∀ {v : V} {d : PyData}, Dp K H v d → Dp K H' v d
  | _, _, .non => .non
  | _, _, .bl b => .bl b
  | _, _, .int i => .int i
  | _, _, .str z => .str z
  | _, _, .lst q a => .lst (sql_but hx s q) (dps_but hx s a)
  | _, _, .tup q a => .tup (sqt_but hx s q) (dps_but hx s a)
theorem dps_but {K : PySem.W.Frag} {H H' : Hp} {x C dx : Addr} {fs : List (Str × V)} (hx : H x = some (.ins C dx fs)) (s : But x H H') : ∀ {vs : List V} {ds : List PyData}, DpAll K H vs ds → DpAll K H' vs ds
  | _, _, .nil => .nil
  | _, _, .cons a r => .cons (dp_but hx s a) (dps_but hx s r)
end
theorem none0 {X : Cx} : L2N.Takes X (fun _ _ _ _ => False) := fun _ _ x => by
  obtain ⟨_, _, _, _, _, _, _, _, _, _, _, _, _, _, _, _, z⟩ := x
  exact z.elim
section
variable {P : Program} {w : World} {K : PySem.W.Frag} {mg : Str → Option Value} {base : Heap} {fI CC CR CF CL CP fC : Addr} {fdC : FuncData}
def tSuite (K : PySem.W.Frag) (word : Str) (CE CR CA CP : Addr) : Addr → Addr → Addr → TS := fun a C d =>
  tPar 3 4 (tCons (tTup (tCons (tC (.str word)) (tCons (tXf a (.ref C) (some d) CE "value" (tVar 5)) tNil)))
    (tCons (tAndV (tCB (rIsP K a C d) (tCons (tVar 5) (tCons (tC (.ref CR)) tNil))) (tNotV (tCB (rIsPT K a C d) (tCons (tVar 5) (tCons (tTup (tCons (tC (.ref CA)) (tCons (tC (.ref CP)) tNil))) tNil))))) tNil))
theorem err_suite {word : Str} {CE CA a dd : Addr} {D : Ends} {H' : Hp} {i : Int} {x0 x1 x2 x3 x4 x5 : Option V} (ec : ExcC K CE) (kR : PySem.W.kitOne K (.ref CE) (.ref CR) = some true) (kO : PySem.W.kitAny K (.ref CE) [.ref CA, .ref CP] = some false)
    (hd : H' dd = some (.xd [("value", .int i)])) (k : ∀ t H3, H' t = none → H3 t = some (.tup [.str word, .int i]) → Same H' H3 → D.nx [x0, x1, x2, some (.ref t), some (.bl true), none] H3) :
    tErr (tSuite K word CE CR CA CP) a (.ref CE) (some dd) (L2N.fall 5 D) (([x0, x1, x2, x3, x4, x5] : L2.St).set 5 (some (.ref a))) H' := by
  dsimp only [tErr, tSuite]
  refine ⟨_, rfl, rfl, rfl, dd, _, _, rfl, hd, rfl, (by show 2 ≤ sizeLine; decide), fun t nt => ?_⟩
  have s1 := same_new (o := .tup [.str word, .int i]) nt
  refine ⟨_, rfl, ec, _, _, _, _, rfl, fun _ r => r, kR, s1 _ _ hd, _, rfl, LK.ifT rfl ?_⟩
  refine ⟨_, rfl, (by show 2 ≤ sizeLine; decide), fun tp ntp => ?_⟩
  have s2 := same_new (o := .tup [.ref CA, .ref CP]) ntp
  refine ⟨ec, tp, _, _, _, _, rfl, upd_same, .cons (.own _) (.cons (.own _) .nil), kO, s2 _ _ (s1 _ _ hd), _, rfl, _, _, rfl, ?_⟩
  exact k t _ nt (s2 _ _ upd_same) (s1.trans s2)
end
end B7
namespace B7
open PySem PySem.Spec PyProof.Rows L2 LK
abbrev sEq : Stmt := inClass (top 33) 10
/-- a cloth of no loops -/
def Bare (CC : Addr) (H : Hp) (x : Addr) : Prop := ∃ dx L G, H x = some (.ins CC dx [("_loops", .ref L), ("_fast", .ref G)]) ∧ H L = some (.lst []) ∧ H G = some (.lst [])
def BothBare (CC : Addr) : Addr → Addr → Hp → Prop := fun x y H => Bare CC H x ∧ Bare CC H y
section
variable {P : Program} {w : World} {K : PySem.W.Frag} {mg : Str → Option Value} {base : Heap} {CC : Addr}
theorem scEq : FnScope ["self", "other"] ["self", "other"] (defScope sEq) := ⟨rfl, rfl, rfl, by decide +kernel, rfl, by decide +kernel, by decide +kernel⟩
/-- the type of an instance of the class -/
structure InsTy (K : PySem.W.Frag) (C : Addr) : Prop where
  ty : ∀ {H : Hp} {x dx : Addr} {fs : List (Str × V)}, H x = some (.ins C dx fs) → TyX K H (.ref x) (.ref C)
  own : PySem.W.kitOne K (.ref C) (.ref C) = some true
  tup : PySem.W.kitOne K (.ref C) (.type "tuple") = some false
theorem ok_Eq {f : Addr} {fd : FuncData} (F : Fun K "__eq__" "Cloth.__eq__" sEq f fd) (B : Bl mg) (gC : mg "Cloth" = some (.ref CC)) (cc : Cls K CC) (n1 : NoAttr K CC "_loops") (n2 : NoAttr K CC "_fast") (it : InsTy K CC) : FnOk P w K mg base CX0 1 f fd ["self", "other"] (spEq (BothBare CC)) := by
  refine F.ok scEq (fun vs H Q E h => ?_) (fun cdv A outer s H vs Q E hr h => ?_)
  · obtain ⟨a, b, rfl, _⟩ := h
    rfl
  · obtain ⟨a, b, rfl, ⟨⟨dx, L, G, hx, hL, hG⟩, dy, M, N, hy, hM, hN⟩, k⟩ := h
    refine ⟨_, pss_one (ps_ret (pe_and (pe_callB call_isi (by rfl) (B "isinstance" (by decide)) (by decide +kernel) (pa_cons (pv 1) (pa_cons (pe_glob rfl gC (v := .ref CC) rfl) pa_nil))) (pe_and (pe_cmpR (op_eqD hr.units) (pe_fld (pv 0) rfl) (pe_fld (pv 1) rfl) (nomark _)) (pe_one (pe_cmpR (op_eqD hr.units) (pe_fld (pv 0) rfl) (pe_fld (pv 1) rfl) (nomark _)))))), ?_⟩
    have e0 : ∀ {p : Addr}, H p = some (.lst []) → Dp K H (.ref p) (.list []) := fun q => .lst (SqL.of q) .nil
    refine ⟨_, rfl, _, _, _, _, true, rfl, .own CC, it.ty hy, it.own, _, rfl, LK.ifT rfl ?_⟩
    refine ⟨_, rfl, a, CC, dx, _, _, rfl, hx, cc, n1, rfl, _, rfl, b, CC, dy, _, _, rfl, hy, cc, n1, rfl, .list [], .list [], e0 hL, e0 hM, rfl, rfl, _, rfl, LK.ifT rfl ?_⟩
    exact ⟨_, rfl, a, CC, dx, _, _, rfl, hx, cc, n2, rfl, _, rfl, b, CC, dy, _, _, rfl, hy, cc, n2, rfl, .list [], .list [], e0 hG, e0 hN, rfl, rfl, k H Ext.rfl'⟩
end
end B7
/-! Sets of texts whose table rises: added to, comprehended, sorted. -/
namespace MXm
open PySem PySem.Spec PyProof.Rows L2
abbrev Ent := Int × Value
def kS (e : Ent) : Str := match e.2 with
  | .str x _ => x
  | _ => ⟨#[]⟩
/-- one object that is such a set -/
structure Tx (w : World) (o : Obj) (es : Array Ent) (ep : Nat) (t : SetTable) (S : Str → Bool) : Prop where
  ex : o.ExactSet
  da : o.data = .set es ep t
  good : ∀ e ∈ es.toList, ∃ x u, e = (hashStr w x, Value.str x u)
  nd : (es.toList.map kS).Nodup
  mem : ∀ x, S x = true ↔ x ∈ es.toList.map kS
  few : es.size < scanBound
  fit : t.fits es.size = true
  ris : Ris t.place.toList
  led : w.params.followText "set-order" = true ∨ t.led = true
def SetT (w : World) (h : Heap) (a : Addr) (S : Str → Bool) (n : Nat) : Prop := ∃ o es ep t, h.get? a = some o ∧ es.size = n ∧ Tx w o es ep t S
theorem Tx.elems {P : Program} {w : World} {o : Obj} {es : Array Ent} {ep : Nat} {t : SetTable} {S : Str → Bool} (T : Tx w o es ep t S) : ElemsOf (PySem.strKind P w) es.toList := by
  intro e inn
  obtain ⟨x, u, rfl⟩ := T.good e inn
  exact ⟨⟨x, PySem.strKind_is P w x u, rfl⟩, rfl⟩
theorem good_key {w : World} {e : Ent} (g : ∃ x u, e = (hashStr w x, Value.str x u)) (k : Str) : Value.isStrOf k e.2 = true ↔ kS e = k := by
  obtain ⟨x, u, rfl⟩ := g
  simp [Value.isStrOf, kS]
theorem SetT.at {w : World} {h h' : Heap} {a : Addr} {S : Str → Bool} {n : Nat} (R : SetT w h a S n) (k : ∀ o, h.get? a = some o → h'.get? a = some o) : SetT w h' a S n := by
  obtain ⟨o, es, ep, t, e, r⟩ := R
  exact ⟨o, es, ep, t, k o e, r⟩
theorem SetT.lt {w : World} {h : Heap} {a : Addr} {S : Str → Bool} {n : Nat} (R : SetT w h a S n) : a < h.objs.size := by
  obtain ⟨_, _, _, _, e, _⟩ := R
  exact Heap.lt_size e
theorem fresh {h : Heap} (w : World) : SetT w (h.push { cls := .type "set", dict := none, data := .set #[] 0 (.fresh 0 0 (!w.params.followText "set-order")) }) h.objs.size (fun _ => false) 0 := by
  refine ⟨_, #[], 0, _, Heap.get?_push_size _ rfl, rfl, ⟨⟨rfl, rfl, rfl⟩, rfl, fun e inn => ?_, by simp, fun x => by simp, by decide, by rfl, List.Pairwise.nil, ?_⟩⟩
  · simp at inn
  · show _ ∨ (!w.params.followText "set-order") = true
    cases w.params.followText "set-order" with
    | false => exact Or.inr rfl
    | true => exact Or.inl rfl
section
variable {P : Program} {w : World} {A : Around} {E : Value → Shared → Prop} {s : Shared} {a : Addr} {S : Str → Bool} {n : Nat}
/-- the new payload is laid, all anew where the table is too full -/
theorem tailT {note : Bool → Sem Unit} (free : ∀ (b : Bool) (s1 : Shared) (R : Unit → Shared → Prop), R () s1 → wpAny (model P w) A (note b) R E s1) {o : Obj} {es es1 : Array Ent} {ep : Nat} {t t1 : SetTable} {S1 : Str → Bool} (here : s.heap.get? a = some o) (old : o.data = .set es ep t) (ex : o.ExactSet)
    (good : ∀ e ∈ es1.toList, ∃ x u, e = (hashStr w x, Value.str x u)) (nd : (es1.toList.map kS).Nodup) (mem : ∀ x, S1 x = true ↔ x ∈ es1.toList.map kS) (few : es1.size < scanBound) (fit : t1.fits es1.size = true) (ris : Ris t1.place.toList) (led : w.params.followText "set-order" = true ∨ t1.led = true)
    {dum : Bool} {R : Option Bool → Shared → Prop} (k : ∀ h', Heap.SameBut a s.heap h' → SetT w h' a S1 es1.size → R (some true) { s with heap := h' }) :
    wpAny (model P w) A (do
      storeSet a es1 t1
      if (!dum && t1.tooFull) = true then do
        note (relayAll t1 es1 (SetTable.grown es1.size)).2.2
        storeSet a (relayAll t1 es1 (SetTable.grown es1.size)).1 (relayAll t1 es1 (SetTable.grown es1.size)).2.1
        pure (some true)
      else pure (some true)) R E s := by
  apply wpAny_bind
  refine wpAny_storeSet_of here old ?_ (fits_of_scanBound few)
  have here1 := L2.store_at (es' := es1) (t' := t1) here old
  have same1 := Heap.SameBut.update s.heap a (Obj.putSet es1 t1)
  split
  · have perm := relayAll_perm t1 es1 (SetTable.grown es1.size)
    have fit2 := relayAll_fits t1 es1 (SetTable.grown es1.size)
    have ris2 := relayAll_ris t1 es1 (SetTable.grown es1.size)
    have led2 := relayAll_led t1 es1 (SetTable.grown es1.size)
    revert perm fit2 ris2 led2
    generalize relayAll t1 es1 (SetTable.grown es1.size) = z
    obtain ⟨es2, t2, gave⟩ := z
    intro perm fit2 ris2 led2
    have size : es2.size = es1.size := by rw [← Array.length_toList, perm.length_eq, Array.length_toList]
    have few2 : es2.size < scanBound := size ▸ few
    apply wpAny_bind
    apply free
    apply wpAny_bind
    refine wpAny_storeSet_of here1 rfl ?_ (fits_of_scanBound few2)
    have here2 := L2.store_at (es' := es2) (t' := t2) here1 rfl
    refine wpAny_pure (k _ (same1.trans (Heap.SameBut.update _ a _)) ⟨_, es2, _, t2, here2, size, ⟨ex, rfl, fun e inn => good e (perm.mem_iff.mp inn), (perm.map kS).nodup_iff.mpr nd, fun x => (mem x).trans (perm.map kS).mem_iff.symm, few2, fit2, ris2, ?_⟩⟩)
    exact led.imp id fun z => (show t2.led = t1.led from led2).trans z
  · exact wpAny_pure (k _ same1 ⟨_, es1, _, t1, here1, rfl, ⟨ex, rfl, good, nd, mem, few, fit, ris, led⟩⟩)
/-- a text added -/
theorem addT {x : Str} {u : Tok} {Q : Bool → Shared → Prop} (R : SetT w s.heap a S n) (room : n + 1 < scanBound) (k : ∀ h', Heap.SameBut a s.heap h' → SetT w h' a (fun y => S y || decide (y = x)) (if S x = true then n else n + 1) → Q (!S x) { s with heap := h' }) :
    wpAny (model P w) A (setAddHashed a (.str x u) (hashStr w x)) Q E s := by
  obtain ⟨o, es, ep, t, here, size, T⟩ := R
  have own : (PySem.strKind P w).is x (.str x u) = true := PySem.strKind_is P w x u
  have el := T.elems (P := P)
  have keyMem : ∀ y, y ∈ es.toList.map kS ↔ ∃ e ∈ es.toList, (PySem.strKind P w).is y e.2 = true := fun y => by
    rw [List.mem_map]
    constructor
    · rintro ⟨e, inn, q⟩
      exact ⟨e, inn, (good_key (T.good e inn) y).2 q⟩
    · rintro ⟨e, inn, q⟩
      exact ⟨e, inn, (good_key (T.good e inn) y).1 q⟩
  unfold setAddHashed setAddHashedIn
  apply wpAny_holding
  apply wpAny_bind
  refine wpAny_setState_of here T.da T.fit ?_
  dsimp only
  rw [byScan_of (show (Value.str x u).scannable = true from rfl) T.few el]
  simp only [↓reduceIte]
  unfold setAddByScan
  apply wpAny_bind
  apply wpAny_bind
  apply wpAny_rule
  apply wpAny_bind
  refine wpAny_setScan_of own here T.da T.fit el ?_
  cases find : List.findIdx? (fun e => (PySem.strKind P w).is x e.2) es.toList with
  | some j =>
    dsimp only
    obtain ⟨lt, is, _⟩ := List.findIdx?_eq_some_iff_getElem.mp find
    have yes : S x = true := (T.mem x).2 ((keyMem x).2 ⟨es.toList[j], List.getElem_mem lt, is⟩)
    have q := k s.heap (Heap.SameBut.refl a s.heap)
    rw [if_pos yes, yes] at q
    refine wpAny_pure (wpAny_pure (q ⟨o, es, ep, t, here, size, ⟨T.ex, T.da, T.good, T.nd, fun y => ?_, T.few, T.fit, T.ris, T.led⟩⟩))
    rw [Bool.or_eq_true, decide_eq_true_eq, ← T.mem y]
    exact ⟨fun z => z.elim id fun e => e ▸ yes, Or.inl⟩
  | none =>
    dsimp only
    have notIn : x ∉ es.toList.map kS := fun z => by
      obtain ⟨e, inn, q⟩ := (keyMem x).1 z
      have c := List.findIdx?_eq_none_iff.mp find e inn
      rw [q] at c
      cases c
    have no : S x = false := Bool.eq_false_iff.mpr fun q => notIn ((T.mem x).1 q)
    have free : ∀ (b : Bool) (s1 : Shared) (R : Unit → Shared → Prop), R () s1 → wpAny (model P w) A (match b with | true => rule "set.scan.the-table-gave-way" | false => pure ()) R E s1 := by
      intro b s1 R q
      cases b with
      | false => exact wpAny_pure q
      | true => exact wpAny_rule q
    have perm := layNew_perm t es (hashStr w x) (.str x u)
    have fit1 := layNew_fits t es (hashStr w x) (.str x u)
    have ris1 := layNew_ris t es (hashStr w x) (.str x u) T.ris
    have led1 := layNew_led t es (hashStr w x) (.str x u)
    revert perm fit1 ris1 led1
    generalize layNew t es (hashStr w x) (.str x u) = z
    obtain ⟨es1, t1, dum, gave⟩ := z
    intro perm fit1 ris1 led1
    dsimp only at perm fit1 ris1 led1 ⊢
    rw [Array.toList_push] at perm
    have cons : es1.toList.Perm ((hashStr w x, Value.str x u) :: es.toList) := perm.trans (List.perm_append_singleton _ _)
    have keys : (es1.toList.map kS).Perm (x :: es.toList.map kS) := cons.map kS
    have good : ∀ e ∈ es1.toList, ∃ y v, e = (hashStr w y, Value.str y v) := fun e inn => by
      rcases List.mem_cons.mp (cons.mem_iff.mp inn) with z | z
      · exact ⟨x, u, z⟩
      · exact T.good e z
    have nd : (es1.toList.map kS).Nodup := keys.nodup_iff.mpr (List.nodup_cons.mpr ⟨notIn, T.nd⟩)
    have mem : ∀ y, (S y || decide (y = x)) = true ↔ y ∈ es1.toList.map kS := fun y => by
      rw [Bool.or_eq_true, decide_eq_true_eq, T.mem y, keys.mem_iff, List.mem_cons]
      exact Or.comm
    have size1 : es1.size = n + 1 := by rw [← Array.length_toList, cons.length_eq, List.length_cons, Array.length_toList, size]
    have few : es1.size < scanBound := size1 ▸ room
    have led : w.params.followText "set-order" = true ∨ t1.led = true := T.led.imp id fun z => led1.trans z
    have fin : ∀ h', Heap.SameBut a s.heap h' → SetT w h' a (fun y => S y || decide (y = x)) es1.size → Q true { s with heap := h' } := fun h' sb r => by
      have q := k h' sb
      rw [no, if_neg Bool.false_ne_true] at q
      rw [size1] at r
      exact q r
    apply wpAny_bind
    apply free
    split
    · apply wpAny_bind
      rw [hashByValue_scannable 8 (show (Value.str x u).scannable = true from rfl)]
      apply wpAny_pure
      refine tailT free here T.da T.ex good nd mem few ?_ ?_ ?_ fun h' sb r => ?_
      · first | (split <;> first | exact fit1 | exact SetTable.fits_plain_off fit1) | exact fit1
      · first | (split <;> exact ris1) | exact ris1
      · first | (split <;> exact led) | exact led
      · exact wpAny_pure (fin h' sb r)
    · apply wpAny_bind
      apply wpAny_pure
      simp only [↓reduceIte]
      refine tailT free here T.da T.ex good nd mem few fit1 ris1 led fun h' sb r => ?_
      exact wpAny_pure (fin h' sb r)
/-- sorted(set of texts) -/
theorem sortT {Q : Value → Shared → Prop} (R : SetT w s.heap a S n) (hh : A.handled = none) (hn : n ≤ sizeLine)
    (k : ∀ s' p (out : Array Value) (c : Nat) (ys : List Str), (∀ b o, s.heap.get? b = some o → s'.heap.get? b = some o) → s'.gens = s.gens → s'.os = s.os → s.heap.objs.size ≤ p → s'.heap.get? p = some (seqObj "list" out c) → StrsAre out.toList ys → sortedS ys = true → ys.Nodup → (∀ y, y ∈ ys ↔ S y = true) → ys.length = n → Q (.ref p) s') :
    wpAny (model P w) A (call (.builtin "sorted") [.ref a]) Q E s := by
  obtain ⟨o, es, ep, t, here, size, T⟩ := R
  refine Calls.call_function_entry kind_sorted plain_sorted entry_sorted (args_sorted1 _) ?_
  unfold Builtin.«sorted»
  refine wpAny_bind (m := checkCount "sorted" 1 1 _) (wpAny_pure ?_)
  apply wpAny_bind
  refine collect_set (A := A.in1) hh ⟨o, here, T.ex.1, T.da⟩ T.fit T.few T.ris T.led fun s1 vs keep grown gens os perm => ?_
  have len : vs.length = n := by rw [perm.length_eq, List.length_map, Array.length_toList, size]
  have allS : ∀ l : List Ent, (∀ e ∈ l, ∃ x u, e = (hashStr w x, Value.str x u)) → StrsAre (l.map (·.2)) (l.map kS) := by
    intro l
    induction l with
    | nil => exact fun _ => .nil
    | cons e r ih =>
      intro g
      obtain ⟨x, u, rfl⟩ := g e List.mem_cons_self
      exact .cons x u (ih fun f inn => g f (List.mem_cons_of_mem _ inn))
  have ofPerm : ∀ {l1 l2 : List Value}, l1.Perm l2 → ∀ {ys : List Str}, StrsAre l2 ys → ∃ zs, StrsAre l1 zs ∧ zs.Perm ys := by
    intro l1 l2 pm
    induction pm with
    | nil => exact fun h => ⟨_, h, List.Perm.refl _⟩
    | cons v _ ih =>
      intro ys h
      cases h with
      | cons x u h =>
        obtain ⟨zs, h1, h2⟩ := ih h
        exact ⟨x :: zs, .cons x u h1, h2.cons x⟩
    | swap v v' l =>
      intro ys h
      cases h with
      | cons x u h =>
        cases h with
        | cons y u' h => exact ⟨_, .cons y u' (.cons x u h), List.Perm.swap _ _ _⟩
    | trans _ _ ih1 ih2 =>
      intro ys h
      obtain ⟨zs, h1, h2⟩ := ih2 h
      obtain ⟨ws, h3, h4⟩ := ih1 h1
      exact ⟨ws, h3, h4.trans h2⟩
  obtain ⟨zs, hS, pz⟩ := ofPerm perm (allS _ T.good)
  apply wpAny_bind
  refine wpAny_newList ?_ (by rw [len]; exact hn)
  have hL : (s1.heap.push (seqObj "list" vs.toArray 0)).get? s1.heap.objs.size = some (seqObj "list" vs.toArray 0) := Heap.get?_push_size _ rfl
  apply wpAny_bind
  apply wpAny_holding
  refine wpAny_call_entry slot_list_sort ⟨_, hL, rfl⟩ entry_list_sort ?_ (args_list_sort _)
  refine list_sort_treeKAny strKind_oneLt hL hS.keysOf (fun v1 v2 rest e => keyKind_strs (by rw [← e]; exact hS)) (by rw [len]; exact hn) fun st' hp hs => ⟨_, rfl, ?_⟩
  obtain ⟨ys, a1, a2, a3⟩ := sorted_out_str hS hp hs
  generalize (arrOf st').map (·.2) = out at a1
  obtain ⟨c, hc⟩ := sortedHeap_at (vs := vs) (out := out) hL
  have pk : ys.Perm (es.toList.map kS) := a2.trans pz
  refine wpAny_pure ⟨_, rfl, k _ s1.heap.objs.size out c ys (fun b u e => ?_) gens os grown hc a1 a3 (pk.nodup_iff.mpr T.nd) (fun y => by rw [pk.mem_iff, ← T.mem y]) ?_⟩
  · have q := keep b u e
    have lt := Heap.lt_size q
    show (sortedHeap (s1.heap.push (seqObj "list" vs.toArray 0)) s1.heap.objs.size vs out).get? b = some u
    rw [sortedHeap_old (Nat.ne_of_lt lt) (by rw [size_push']; exact Nat.lt_succ_of_lt lt)]
    exact Heap.get?_push_of_some _ q
  · rw [pk.length_eq, List.length_map, Array.length_toList, size]
end
end MXm
/-! {x for .. in ..} of texts, sorted of it. -/
namespace MXn
open PySem PySem.Spec PyProof.Rows L2 MXm PpSet
def SetTO (w : World) (a : Addr) (S : Str → Bool) (n : Nat) : HO := .ext fun h => SetT w h a S n
theorem obj_of {w : World} {P : Program} {H : Hp} {h : Heap} {a : Addr} {S : Str → Bool} {n : Nat} (R : SetT w h a S n) : ObjOk P w H h a (SetTO w a S n) := by
  have ⟨o, _, _, _, e, _⟩ := R
  exact ⟨R, ⟨o, e⟩, fun h1 h2 p k => SetT.at p k⟩
section
variable {X : Cx}
theorem of_obj {pins : List (Addr × Obj)} {σ : L2.St} {H : Hp} {s : Shared} {a : Addr} {S : Str → Bool} {n : Nat} (I : Inv X pins σ H s) (e : H a = some (SetTO X.w a S n)) : SetT X.w s.heap a S n := (I.hok a _ e).1
theorem add_call {pins : List (Addr × Obj)} {σ : L2.St} {H : Hp} {s : Shared} {E : Value → Shared → Prop} {D : Addr} {S : Str → Bool} {n : Nat} {x : Str} {u : Tok} {Q : Value → Shared → Prop} (I : Inv X pins σ H s) (e : H D = some (SetTO X.w D S n)) (room : n + 1 < scanBound)
    (k : ∀ s', Inv X pins σ (upd H D (SetTO X.w D (fun y => S y || decide (y = x)) (if S x = true then n else n + 1))) s' → Q .none s') : wpAny (model X.prog X.w) X.A (call (.builtin "set.add") [.ref D, .str x u]) Q E s := by
  have R := of_obj I e
  have ⟨o, es, ep, t, here, _, T⟩ := R
  refine wpAny_call_entry F.slot_set_add ⟨o, here, T.ex.1⟩ F.entry_set_add ?_ (F.args_set_add_2 _ _)
  unfold Builtin.«set.add» Builtin.Frozenset.oneOther
  simp only [List.isEmpty_nil, bind_assoc]
  unfold Builtin.Frozenset.addrOf setAdd
  apply wpAny_bind
  apply wpAny_pure
  try dsimp only
  apply wpAny_bind
  apply wpAny_pure
  try dsimp only
  apply wpAny_bind
  apply wpAny_holding
  apply wpAny_bind
  refine (PySem.strKind X.prog X.w).pyHash (k := x) (PySem.strKind_is _ _ x u) ?_
  refine addT (s := { s with toks := s.toks + 1 }) R room fun h' sb new => ?_
  show wpAny _ _ (ret Value.none) _ _ _
  have there : ∃ v, h'.get? D = some v := by
    have ⟨o', _, _, _, e', _⟩ := new
    exact ⟨o', e'⟩
  exact wpAny_pure ⟨_, rfl, k _ (I.write (e := D) (t' := s.toks + 1) (by rw [e]; trivial) (.inl rfl) (fun b v nb hv => (sb.2 b nb).trans hv) there (obj_of new))⟩
/-- the wish of such a comprehension -/
def tSt (w : World) (wi : TI) (g : TG) (tt : TT) (te : TE) (vs : List Nat) : TE := fun σ H Q => wi σ H fun J H1 => ∀ D, H1 D = none → ∃ W : Nat → Nat → Hp → Prop, (∃ m, W 0 m (upd H1 D (SetTO w D (fun _ => false) 0))) ∧ ∀ i m H, W i m H →
  (J.stop i H ∧ Q (.ref D) H) ∨ (J.go i H ∧ ∃ Nx : Hp → Prop, (∀ H', Nx H' → ∃ m', m' < m ∧ W (i + 1) m' H') ∧ ∀ x H', J.yld i H x H' → g x (wipe σ vs) H' fun σ2 H2 => wipe σ2 vs = wipe σ vs ∧ tt σ2 H2 fun b H3 =>
    if b = true then te σ2 H3 fun y H4 => ∃ (c : Str) (S : Str → Bool) (n : Nat), y = .str c ∧ H4 D = some (SetTO w D S n) ∧ n + 1 < scanBound ∧ Nx (upd H4 D (SetTO w D (fun z => S z || decide (z = c)) (if S c = true then n else n + 1))) else Nx H3)
theorem pe_st {elt tg iter : Expr} {ifs : List Expr} {scope : Scope} {own : List (PySem.Str × Nat)} {pos : Pos} {wi : TI} {g : TG} {tt : TT} {te : TE} (calm : X.calm = true) (nd : X.N.Nodup) (hi : PI X tg iter wi) (ok : BlkOk X.N X.env.scope scope own)
    (hg : ∀ (s : Shared) (H : Hp) (C : Addr) (cl : List (PySem.Str × Addr)) (fp : List Addr), PG (X.blk s H scope (compEnvC scope cl C X.env) fp) tg g) (ht : ∀ (s : Shared) (H : Hp) (C : Addr) (cl : List (PySem.Str × Addr)) (fp : List Addr), PTs (X.blk s H scope (compEnvC scope cl C X.env) fp) ifs tt)
    (he : ∀ (s : Shared) (H : Hp) (C : Addr) (cl : List (PySem.Str × Addr)) (fp : List Addr), PE (X.blk s H scope (compEnvC scope cl C X.env) fp) elt te) (hs : ∀ x, foldedSetIterable iter X.env x = pure x := by intro _; rfl) :
    PE X (.SetComp elt [⟨tg, iter, ifs, 0⟩] scope pos) (tSt X.w wi g tt te (own.map (·.2))) := by
  constructor
  intro pins s σ H Q I want
  rw [eval_SetComp]
  have cells : ∀ y ∈ scope.names, y.2 = .free → ∃ c, X.env.cells.lookup y.1 = some c := fun y hy e => by
    rcases ok.free y hy e with z | z
    · exact I.ok.has _ (.inl z)
    · exact I.ok.has _ (.inr z)
  refine wpAny_comprehension_free rfl hs (closure_ok cells) ok.kind (fun y hy e => by rw [ok.uniq y hy, e]) (thn (hi.run pins s σ H _ I want) fun xv s1 hx => thn hx fun itv s2 h2 => ?_)
  obtain ⟨it, fp, tn, J, H2, rfl, I2, T, at2, off2, goal⟩ := h2
  refine newSet_ok (newEnv_comp ?_)
  generalize eD : s2.heap.objs.size = D
  have nD : H2 D = none := I2.hok.fresh (Nat.le_of_eq eD)
  obtain ⟨W, ⟨m0, w0⟩, turn⟩ := goal D nD
  generalize e3 : ({ s2 with heap := s2.heap.push { cls := .type "set", dict := none, data := .set #[] 0 (.fresh 0 0 (!X.w.params.followText "set-order")) } } : Shared) = s3
  have heap3 : s3.heap = s2.heap.push { cls := .type "set", dict := none, data := .set #[] 0 (.fresh 0 0 (!X.w.params.followText "set-order")) } := by rw [← e3]
  have I3 : Inv X pins σ (upd H2 D (SetTO X.w D (fun _ => false) 0)) s3 := by
    subst e3
    subst eD
    exact I2.laid (t' := s2.toks) (fun b o e => Heap.get?_push_of_some _ e) (Nat.le_refl _) (obj_of (fresh X.w))
  have below : ∀ b ∈ fp, b < s2.heap.objs.size := fun b inn => by
    obtain ⟨o, e, _⟩ := T.obj _ _ at2 b inn
    exact Heap.lt_size e
  have off3 : ∀ b ∈ fp, FpOk X pins (upd H2 D (SetTO X.w D (fun _ => false) 0)) b ∧ b < s3.heap.objs.size := fun b inn => by
    have lt := below b inn
    constructor
    · refine ⟨?_, (off2 b inn).2⟩
      rw [upd_ne (by rw [← eD]; exact Nat.ne_of_lt lt)]
      exact (off2 b inn).1
    · rw [heap3, Heap.size_push]
      exact Nat.lt_succ_of_lt lt
  have at3 : tn 0 s3.heap := T.keep _ _ _ at2 fun b _ o e => by
    rw [heap3]
    exact Heap.get?_push_of_some _ e
  have I4 := block_start I3 ok nd off3
  have pg := hg s3 (upd H2 D (SetTO X.w D (fun _ => false) 0)) s3.heap.objs.size (cellsFrom (s3.heap.objs.size + 1) scope.names (cloFrom X.env.cells scope.names [])) fp
  have pt := ht s3 (upd H2 D (SetTO X.w D (fun _ => false) 0)) s3.heap.objs.size (cellsFrom (s3.heap.objs.size + 1) scope.names (cloFrom X.env.cells scope.names [])) fp
  have pe := he s3 (upd H2 D (SetTO X.w D (fun _ => false) 0)) s3.heap.objs.size (cellsFrom (s3.heap.objs.size + 1) scope.names (cloFrom X.env.cells scope.names [])) fp
  have off : ∀ b ∈ fp, (upd H2 D (SetTO X.w D (fun _ => false) 0)) b = none := fun b inn => (off3 b inn).1.1
  show codeAny _ _ (.compStart (.SetComp elt [⟨tg, iter, ifs, 0⟩] scope pos) 0 (.ref it) (.ref D) (compEnvC scope (cellsFrom (s3.heap.objs.size + 1) scope.names (cloFrom X.env.cells scope.names [])) s3.heap.objs.size X.env)) _ { s3 with heap := pushCells (s3.heap.push { cls := .type "dict", data := .dict #[] }) scope.names }
  generalize eC : compEnvC scope (cellsFrom (s3.heap.objs.size + 1) scope.names (cloFrom X.env.cells scope.names [])) s3.heap.objs.size X.env = ce at I4 pg pt pe ⊢
  have loc : ce.locals = s3.heap.objs.size := by rw [← eC]; rfl
  generalize upd H2 D (SetTO X.w D (fun _ => false) 0) = H3 at I3 I4 pg pt pe w0 off off3
  generalize e4 : ({ s3 with heap := pushCells (s3.heap.push { cls := .type "dict", data := .dict #[] }) scope.names } : Shared) = s4 at I4 ⊢
  have at4 : tn 0 s4.heap := T.keep _ _ _ at3 fun b _ o e => by
    rw [← e4]
    exact pushCells_keeps _ _ _ _ (Heap.get?_push_of_some _ e)
  have still : ∀ {τ : L2.St} {G : Hp} {s' : Shared}, Inv (X.blk s3 H3 scope ce fp) [] τ G s' → (∀ b ∈ fp, G b = none) → ∀ b ∈ fp, FpOk (X.blk s3 H3 scope ce fp) [] G b := by
    intro τ G s' I' no b inn
    exact ⟨no b inn, (I'.ok.exf b inn).1, I'.ok.exfs b inn, .inl inn, fun x c e => (I'.ok.exf b inn).2 x c e, fun p hp => absurd (show p ∈ ([] : List (Addr × Obj)) ++ [] from hp) (by simp)⟩
  refine codeAny_compStart_set ?_ (T.self X.A 0 _ _ _ at4 ?_)
  all_goals
    refine compLoopS_any (fun n s' => ∃ i G, Inv (X.blk s3 H3 scope ce fp) [] (wipe σ (own.map (·.2))) G s' ∧ tn i s'.heap ∧ (∀ b ∈ fp, G b = none) ∧ W i n G) ?_ m0 ⟨0, H3, I4, at4, off, w0⟩
    rintro n s5 ⟨i, G5, I5, at5, off5, w5⟩
    rcases turn i n G5 w5 with ⟨stop, done⟩ | ⟨go, Nx, next, step⟩
    · have ends := T.done (X.blk s3 H3 scope ce fp) rfl rfl rfl calm i [] s5 _ G5 (fun _ _ => False) I5 (still I5 off5) at5 stop
      refine thnF ends fun r s6 z => ?_
      obtain ⟨rfl, I6⟩ := z
      have I7 : Inv X pins σ G5 s6 := I3.call' (ch := fp) I6.os I6.base I6.hok I6.bare fun b inn => ⟨(off3 b inn).1.2.2.2.1, (off3 b inn).1.2.1, (off3 b inn).1.2.2.2.2.1, (off3 b inn).1.2.2.2.2.2⟩
      have nC : G5 s3.heap.objs.size = none := loc ▸ (show G5 ce.locals = none from I6.free)
      obtain ⟨m, hn, _⟩ := I6.loc
      have hn2 : s6.heap.Ns s3.heap.objs.size m := loc ▸ (show s6.heap.Ns ce.locals m from hn)
      refine ⟨m, hn2, fun h'' sb => ?_⟩
      obtain ⟨f0, f1, f2, f3, f4, f5⟩ := I3.fpOk (Nat.le_refl _) nC
      exact ⟨.ref D, G5, I7.turned (t' := s6.toks) (fun b o nb e => (sb.2 b nb).trans e) f0 f1 f3 f4 f5, rfl, done⟩
    · have more := T.item (X.blk s3 H3 scope ce fp) rfl rfl rfl calm i [] s5 _ G5 (fun _ _ => False) I5 (still I5 off5) at5 go
      refine thnF more fun r s6 z => ?_
      obtain ⟨u, rfl, h6⟩ := z
      refine thnF h6 fun _ s7 z => ?_
      obtain ⟨x, G7, I7, r7, y7, at7, off7⟩ := z
      have I8 := I7.pinned (still I7 off7) (T.obj _ _ at7)
      refine thnF (pg.run _ s7 _ G7 x u _ I8 r7 (step x G7 y7)) fun _ s8 z => ?_
      obtain ⟨τ, G8, J8, same, q8⟩ := z
      refine thnF (pt.run _ s8 τ G8 _ J8 q8) fun b s9 z => ?_
      obtain ⟨G9, J9, q9⟩ := z
      have over : ∀ {s' : Shared} {G' : Hp}, Inv (X.blk s3 H3 scope ce fp) ([] ++ pinsAt fp s7.heap) τ G' s' → Nx G' → ∃ m, m < n ∧ ∃ i G, Inv (X.blk s3 H3 scope ce fp) [] (wipe σ (own.map (·.2))) G s' ∧ tn i s'.heap ∧ (∀ b ∈ fp, G b = none) ∧ W i m G := by
        intro s' G' I' nx
        obtain ⟨m', lt, w'⟩ := next G' nx
        have kept : ∀ b ∈ fp, ∀ o, s7.heap.get? b = some o → s'.heap.get? b = some o ∧ G' b = none := fun b inn o e => by
          have z := I'.pin (b, o) (List.mem_append_right _ (List.mem_append_right _ (mem_pinsAt inn e)))
          exact ⟨z.1, z.2.1⟩
        have len : (wipe σ (own.map (·.2))).length = τ.length := by rw [← same, wipe_length]
        refine ⟨m', lt, i + 1, G', (I'.unpinned (pins := [])).weak len (fun j v e => ?_), T.keep _ _ _ at7 fun b inn o e => (kept b inn o e).1, fun b inn => ?_, w'⟩
        · rw [← same] at e
          exact (wipe_some e).1
        · obtain ⟨o, e, _⟩ := T.obj _ _ at7 b inn
          exact (kept b inn o e).2
      cases b with
      | false =>
        simp only [Bool.false_eq_true, if_false] at q9 ⊢
        exact over J9 q9
      | true =>
        simp only [if_true] at q9 ⊢
        refine thnF (pe.run _ s9 τ G9 _ J9 q9) fun v s10 z => ?_
        obtain ⟨y, G10, J10, r10, c, S0, n0, rfl, hD, room, nx⟩ := z
        obtain ⟨tk, rfl⟩ := (show ∃ t, v = Value.str c t from r10)
        exact add_call (X := X.blk s3 H3 scope ce fp) J10 hD room fun s11 J11 => over J11 nx
/-- sorted of such a set -/
def rSortT (w : World) : List V → Hp → VK → Prop := fun vs H Q => ∃ (a : Addr) (S : Str → Bool) (n : Nat), vs = [V.ref a] ∧ H a = some (SetTO w a S n) ∧ n ≤ sizeLine ∧
  ∀ (ys : List Str) (p : Addr), sortedS ys = true → ys.Nodup → (∀ y, y ∈ ys ↔ S y = true) → H p = none → Q (.ref p) (upd H p (.lst (ys.map V.str)))
theorem cr_sortT (calm : X.calm = true) : CallR X (.builtin "sorted") (rSortT X.w) := by
  intro pins s σ H vs us Q I r h
  obtain ⟨a, S, n, rfl, e, hn, k⟩ := h
  rw [Vals.ref1 r]
  refine sortT (of_obj I e) (I.ok.hd calm) hn fun s' p out c ys keep g o hp hg hi hs nd hm hl => ?_
  have len : (ys.map V.str).length ≤ sizeLine := by rw [List.length_map, hl]; exact hn
  have free : H p = none := I.hok.fresh hp
  have J : Inv X pins σ (upd H p (.lst (ys.map V.str))) { s with heap := s'.heap, gens := s'.gens, drawn := s'.drawn, toks := s'.toks } := by
    refine I.call (ch := []) (Un.laid keep hp free) (I.hok.laid keep hp ⟨len, out.toList, c, vals_of_strs hi, hg⟩) ?_ (fun _ z => nomatch z)
    rw [g]
    exact I.bare
  have whole : s' = { s with heap := s'.heap, gens := s'.gens, drawn := s'.drawn, toks := s'.toks } := by
    cases s'
    cases s
    cases o
    rfl
  rw [whole]
  exact ⟨.ref p, _, J, rfl, k ys p hs nd hm free⟩
end
end MXn
namespace MXn
open PySem PySem.Spec PyProof.Rows L2 MXm
/-- over a list that the block leaves as it is -/
theorem st_list {w : World} {K : PySem.W.Frag} {a : Addr} {xs : List V} {g : TG} {tt : TT} {te : TE} {vs : List Nat} {σ : L2.St} {H1 : Hp} {D : Addr} {R : Hp → Prop} (I : Nat → Hp → Prop) (start : I 0 (upd H1 D (SetTO w D (fun _ => false) 0))) (there : ∀ i H, i ≤ xs.length → I i H → SqL K H a xs)
    (turn : ∀ i x H, xs[i]? = some x → I i H → g x (wipe σ vs) H fun σ2 H2 => wipe σ2 vs = wipe σ vs ∧ tt σ2 H2 fun b H3 => if b = true then te σ2 H3 fun y H4 => ∃ (c : Str) (S : Str → Bool) (n : Nat), y = .str c ∧ H4 D = some (SetTO w D S n) ∧ n + 1 < scanBound ∧
      I (i + 1) (upd H4 D (SetTO w D (fun z => S z || decide (z = c)) (if S c = true then n else n + 1))) else I (i + 1) H3) (fin : ∀ H, I xs.length H → R H) :
    ∃ W : Nat → Nat → Hp → Prop, (∃ m, W 0 m (upd H1 D (SetTO w D (fun _ => false) 0))) ∧ ∀ i m H, W i m H → ((Itl K a).stop i H ∧ R H) ∨ ((Itl K a).go i H ∧ ∃ Nx : Hp → Prop, (∀ H', Nx H' → ∃ m', m' < m ∧ W (i + 1) m' H') ∧ ∀ x H', (Itl K a).yld i H x H' →
      g x (wipe σ vs) H' fun σ2 H2 => wipe σ2 vs = wipe σ vs ∧ tt σ2 H2 fun b H3 => if b = true then te σ2 H3 fun y H4 => ∃ (c : Str) (S : Str → Bool) (n : Nat), y = .str c ∧ H4 D = some (SetTO w D S n) ∧ n + 1 < scanBound ∧ Nx (upd H4 D (SetTO w D (fun z => S z || decide (z = c)) (if S c = true then n else n + 1))) else Nx H3) := by
  refine ⟨fun i m H => m = xs.length - i ∧ i ≤ xs.length ∧ I i H, ⟨_, by rw [Nat.sub_zero], Nat.zero_le _, start⟩, ?_⟩
  rintro i m H ⟨rfl, le, inv⟩
  have seq := there i H le inv
  rcases Nat.lt_or_ge i xs.length with lt | ge
  · refine Or.inr ⟨⟨xs, xs[i], seq, by simp [lt]⟩, I (i + 1), fun H' inv' => ⟨xs.length - (i + 1), by omega, rfl, lt, inv'⟩, ?_⟩
    rintro x H' ⟨rfl, y⟩
    exact turn i x _ (y xs seq) inv
  · obtain rfl : i = xs.length := Nat.le_antisymm le ge
    exact Or.inl ⟨⟨xs, seq, Nat.le_refl _⟩, fin H inv⟩
end MXn
namespace B7
open PySem PySem.Spec PyProof.Rows L2 LK MXn
/-- a loop's thread -/
def thrOf : PyData → Str
  | .tuple (.str s :: _) => s
  | _ => ⟨#[]⟩
/-- each is a pair with a thread ahead -/
def Pairs (ds : List PyData) : Prop := ∀ d ∈ ds, ∃ s p, d = .tuple [.str s, p]
def spNam (K : PySem.W.Frag) (C : Addr) : Sp := fun vs H Q _ => ∃ (x dx L : Addr) (fs : List (Str × V)) (xs : List V) (ds : List PyData), vs = [.ref x] ∧ H x = some (.ins C dx fs) ∧ Cls K C ∧ NoAttr K C "_loops" ∧ fs.lookup ("_loops" : Str) = some (.ref L) ∧ H L = some (.lst xs) ∧ DpAll K H xs ds ∧ Pairs ds ∧ ds.length ≤ 1000 ∧
  ∀ (ys : List Str) (p : Addr) (H' : Hp), sortedS ys = true → ys.Nodup → (∀ y, y ∈ ys ↔ y ∈ ds.map thrOf) → Same H H' → H p = none → H' p = some (.lst (ys.map V.str)) → Q (.ref p) H'
section
variable {P : Program} {w : World} {K : PySem.W.Frag} {mg : Str → Option Value} {base : Heap} {C : Addr}
end
end B7
/-! Sorted texts: two sorted lists without doubles and with the same members are one; what is left when equal neighbours are thrown out. -/
namespace LK
open PySem PySem.Spec PyProof.Rows L2
/-- a is not behind b -/
def leS (a b : Str) : Prop := ¬ b.cps.toList < a.cps.toList
theorem leS_trans {a b c : Str} (h : leS a b) (k : leS b c) : leS a c := List.not_lt.mpr (List.le_trans (List.not_lt.mp h) (List.not_lt.mp k))
theorem leS_anti {a b : Str} (h : leS a b) (k : leS b a) : a = b := by
  have e : a.cps.toList = b.cps.toList := List.le_antisymm (List.not_lt.mp h) (List.not_lt.mp k)
  obtain ⟨a⟩ := a
  obtain ⟨b⟩ := b
  exact congrArg Str.mk (Array.toList_inj.mp e)
theorem rising_pw : ∀ (r : List Str) (p : Str), risingS p r = true → (p :: r).Pairwise leS
  | [], p, _ => List.pairwise_singleton _ _
  | x :: r, p, h => by
    rw [risingS, Bool.and_eq_true] at h
    obtain ⟨h1, h2⟩ := h
    have t := rising_pw r x h2
    have px : leS p x := by
      unfold leS
      rw [ltCps_eq] at h1
      simpa using h1
    refine List.pairwise_cons.mpr ⟨fun y hy => ?_, t⟩
    rcases List.mem_cons.mp hy with rfl | hy
    · exact px
    · exact leS_trans px ((List.pairwise_cons.mp t).1 y hy)
theorem sorted_pw {l : List Str} (h : sortedS l = true) : l.Pairwise leS := by
  cases l with
  | nil => exact List.Pairwise.nil
  | cons x r => exact rising_pw r x h
theorem uniq_sorted : ∀ {l m : List Str}, l.Pairwise leS → m.Pairwise leS → l.Nodup → m.Nodup → (∀ x, x ∈ l ↔ x ∈ m) → l = m
  | [], [], _, _, _, _, _ => rfl
  | [], y :: m, _, _, _, _, h => absurd ((h y).2 List.mem_cons_self) List.not_mem_nil
  | x :: l, [], _, _, _, _, h => absurd ((h x).1 List.mem_cons_self) List.not_mem_nil
  | x :: l, y :: m, pl, pm, nl, nm, h => by
    obtain ⟨l1, l2⟩ := List.pairwise_cons.mp pl
    obtain ⟨m1, m2⟩ := List.pairwise_cons.mp pm
    obtain ⟨l3, l4⟩ := List.nodup_cons.mp nl
    obtain ⟨m3, m4⟩ := List.nodup_cons.mp nm
    have xy : x = y := by
      rcases List.mem_cons.mp ((h x).1 List.mem_cons_self) with e | e
      · exact e
      · rcases List.mem_cons.mp ((h y).2 List.mem_cons_self) with e' | e'
        · exact e'.symm
        · exact leS_anti (l1 y e') (m1 x e)
    subst xy
    refine congrArg (x :: ·) (uniq_sorted l2 m2 l4 m4 fun z => ?_)
    constructor
    · intro hz
      rcases List.mem_cons.mp ((h z).1 (List.mem_cons_of_mem _ hz)) with e | e
      · subst e
        exact absurd hz l3
      · exact e
    · intro hz
      rcases List.mem_cons.mp ((h z).2 (List.mem_cons_of_mem _ hz)) with e | e
      · subst e
        exact absurd hz m3
      · exact e
/-- item k stays where it is not its left neighbour -/
def newAt (zs : List Str) (k : Nat) : Bool := decide (k = 0) || !decide (zs[k]? = zs[k - 1]?)
/-- what is left of the first i -/
def leftS (zs : List Str) (i : Nat) : List Str := ((List.range i).filter (newAt zs)).filterMap (zs[·]?)
theorem left_succ {zs : List Str} {i : Nat} {x : Str} (h : zs[i]? = some x) : leftS zs (i + 1) = if newAt zs i = true then leftS zs i ++ [x] else leftS zs i := by
  unfold leftS
  rw [List.range_succ, List.filter_append, List.filterMap_append]
  by_cases q : newAt zs i = true
  · rw [if_pos q, List.filter_cons_of_pos q, List.filter_nil, List.filterMap_cons, h]
    rfl
  · rw [if_neg q, List.filter_cons_of_neg q, List.filter_nil, List.filterMap_nil, List.append_nil]
theorem left_len (zs : List Str) (i : Nat) : (leftS zs i).length ≤ i := by
  unfold leftS
  refine Nat.le_trans (List.length_filterMap_le _ _) (Nat.le_trans (List.length_filter_le _ _) ?_)
  rw [List.length_range]
  exact Nat.le_refl _
theorem left_sound {zs : List Str} (pw : zs.Pairwise leS) : ∀ i, i ≤ zs.length → (leftS zs i).Pairwise leS ∧ (leftS zs i).Nodup ∧ ∀ x, x ∈ leftS zs i ↔ x ∈ zs.take i
  | 0, _ => ⟨List.Pairwise.nil, List.nodup_nil, fun x => by simp [leftS]⟩
  | i + 1, hi => by
    obtain ⟨h1, h2, h3⟩ := left_sound pw i (Nat.le_of_succ_le hi)
    have at_ : zs[i]? = some zs[i] := List.getElem?_eq_getElem hi
    have tk : zs.take (i + 1) = zs.take i ++ [zs[i]] := by rw [List.take_add_one, at_]; rfl
    have before : ∀ y ∈ zs.take i, leS y zs[i] := fun y hy => by
      obtain ⟨j, hj, rfl⟩ := List.getElem_of_mem hy
      rw [List.length_take] at hj
      rw [List.getElem_take]
      exact List.pairwise_iff_getElem.mp pw j i (by omega) hi (by omega)
    rw [left_succ at_, tk]
    by_cases q : newAt zs i = true
    · rw [if_pos q]
      have fresh : zs[i] ∉ zs.take i := fun hy => by
        cases i with
        | zero => simp at hy
        | succ k =>
          have q' : ¬ zs[k + 1]? = zs[k]? := by simpa [newAt] using q
          have last : leS zs[k + 1] zs[k] := by
            obtain ⟨j, hj, e⟩ := List.getElem_of_mem hy
            rw [List.length_take] at hj
            rw [List.getElem_take] at e
            rw [← e]
            rcases Nat.lt_or_ge j k with lt | ge
            · exact List.pairwise_iff_getElem.mp pw j k (by omega) (by omega) lt
            · obtain rfl : j = k := by omega
              exact fun z => absurd z (List.lt_irrefl _)
          have e := leS_anti last (before _ (by
            have : zs[k] = (zs.take (k + 1))[k]'(by rw [List.length_take]; omega) := by rw [List.getElem_take]
            rw [this]
            exact List.getElem_mem _))
          exact q' (by rw [List.getElem?_eq_getElem hi, List.getElem?_eq_getElem (by omega : k < zs.length), e])
      refine ⟨List.pairwise_append.mpr ⟨h1, List.pairwise_singleton _ _, fun y hy z hz => ?_⟩, List.nodup_append.mpr ⟨h2, (by simp), fun y hy z hz => ?_⟩, fun x => ?_⟩
      · obtain rfl := List.mem_singleton.mp hz
        exact before y ((h3 y).1 hy)
      · obtain rfl := List.mem_singleton.mp hz
        exact fun e => fresh (e ▸ (h3 y).1 hy)
      · rw [List.mem_append, List.mem_append, h3 x]
    · rw [if_neg q]
      refine ⟨h1, h2, fun x => ?_⟩
      rw [List.mem_append, h3 x, List.mem_singleton]
      refine ⟨Or.inl, fun z => z.elim id fun e => ?_⟩
      cases i with
      | zero => exact absurd (by rfl : newAt zs 0 = true) q
      | succ k =>
        have q' : zs[k + 1]? = zs[k]? := by simpa [newAt] using q
        rw [List.getElem?_eq_getElem hi, List.getElem?_eq_getElem (by omega : k < zs.length)] at q'
        rw [e, Option.some.inj q']
        have : zs[k] = (zs.take (k + 1))[k]'(by rw [List.length_take]; omega) := by rw [List.getElem_take]
        rw [this]
        exact List.getElem_mem _
/-- the sorted texts without doubles -/
theorem left_all {zs ys : List Str} (h : sortedS zs = true) (h1 : sortedS ys = true) (h2 : ys.Nodup) (h3 : ∀ y, y ∈ ys ↔ y ∈ zs) : leftS zs zs.length = ys := by
  obtain ⟨a, b, c⟩ := left_sound (sorted_pw h) zs.length (Nat.le_refl _)
  refine uniq_sorted a (sorted_pw h1) b h2 fun x => ?_
  rw [c x, List.take_length, h3 x]
end LK
namespace B7
open PySem PySem.Spec PyProof.Rows L2 LK MXi
/-- a cloth at x with the loops ls, the fast ones ms -/
def IsC (K : PySem.W.Frag) (CC : Addr) (H : Hp) (x : Addr) (ls : List Lp) (ms : List Int) : Prop := ∃ (dx L G : Addr) (xs : List V), H x = some (.ins CC dx [("_loops", .ref L), ("_fast", .ref G)]) ∧ H L = some (.lst xs) ∧ DpAll K H xs (ls.map lpD) ∧ H G = some (.lst (ms.map V.int))
theorem IsC.same {K : PySem.W.Frag} {CC : Addr} {H H' : Hp} {x : Addr} {ls : List Lp} {ms : List Int} (h : IsC K CC H x ls ms) (s : Same H H') : IsC K CC H' x ls ms := by
  obtain ⟨dx, L, G, xs, h1, h2, h3, h4⟩ := h
  exact ⟨dx, L, G, xs, s _ _ h1, s _ _ h2, dps_same s h3, s _ _ h4⟩
def spTold (K : PySem.W.Frag) (CC : Addr) : Sp := fun vs H Q _ => ∃ (x : Addr) (u v : V) (ls : List Lp) (ns ms : List Int), vs = [.ref x, u, v] ∧ IsC K CC H x ls ms ∧ Dp K H u (.list (ls.map lpD)) ∧ Dp K H v (.list (ns.map PyData.int)) ∧ ms.Perm ns ∧ ms.Pairwise (· ≤ ·) ∧ ls.length ≤ 63 ∧ PyData.canLayAll0 (ls.map lpD) = true ∧ (∀ l ∈ ls, l.2.length ≤ 1000) ∧ ns.length ≤ 1000 ∧ ∀ H', Same H H' → Q (.bl true) H'
/-- the properties and len -/
structure Prp (P : Program) (w : World) (K : PySem.W.Frag) (mg : Str → Option Value) (base : Heap) (CC : Addr) where
  (pL pF pT gL gF gT gN : Addr)
  (fL fF fT fN : FuncData)
  aL : PropOf K CC "loops" pL gL
  aF : PropOf K CC "fast" pF gF
  aT : PropOf K CC "threads" pT gT
  aN : LenOf K CC gN
  bL : Binds K fL ["self"] []
  bF : Binds K fF ["self"] []
  bT : Binds K fT ["self"] []
  bN : Binds K fN ["self"] []
  oL : FnOk P w K mg base CX0 1 gL fL ["self"] (spCopy K CC "_loops")
  oF : FnOk P w K mg base CX0 1 gF fF ["self"] (spCopy K CC "_fast")
  oT : FnOk P w K mg base CX0 1 gT fT ["self"] (spNam K CC)
  oN : FnOk P w K mg base CX0 1 gN fN ["self"] (spSize K CC)
theorem lps_pairs (ls : List Lp) : Pairs (ls.map lpD) := fun d hd => by
  obtain ⟨l, _, rfl⟩ := List.mem_map.mp hd
  exact ⟨_, _, rfl⟩
theorem thr_lps (ls : List Lp) : (ls.map lpD).map thrOf = ls.map (·.1) := by
  rw [List.map_map]
  rfl
theorem few_ints : ∀ ns : List Int, fewAll (ns.map PyData.int) = true
  | [] => rfl
  | _ :: r => few_ints r
theorem few_strs : ∀ ns : List Str, fewAll (ns.map PyData.str) = true
  | [] => rfl
  | _ :: r => few_strs r
theorem lay_ints : ∀ ns : List Int, PyData.canLayAll0 (ns.map PyData.int) = true ∧ PyData.depthAll (ns.map PyData.int) = 0
  | [] => ⟨rfl, rfl⟩
  | n :: r => by
    obtain ⟨a, b⟩ := lay_ints r
    constructor
    · rw [List.map_cons, PyData.canLayAll0, a]
      rfl
    · simp only [List.map_cons, PyData.depthAll, PyData.depth, b]
      rfl
theorem lay_strs : ∀ ns : List Str, (∀ n ∈ ns, (PyData.str n).canLay0 = true) → PyData.canLayAll0 (ns.map PyData.str) = true ∧ PyData.depthAll (ns.map PyData.str) = 0
  | [], _ => ⟨rfl, rfl⟩
  | n :: r, h => by
    obtain ⟨a, b⟩ := lay_strs r fun m hm => h m (List.mem_cons_of_mem _ hm)
    constructor
    · rw [List.map_cons, PyData.canLayAll0, a, h n List.mem_cons_self]
      rfl
    · simp only [List.map_cons, PyData.depthAll, PyData.depth, b]
      rfl
theorem few_lp {l : Lp} (h : l.2.length ≤ 1000) : few (lpD l) = true := by
  have q : few (.tuple (l.2.map PyData.int)) = true := by
    unfold few
    rw [few_ints, Bool.and_true, List.length_map]
    exact decide_eq_true (by omega)
  show (decide (2 ≤ 1000000) && (few (.str l.1) && (few (.tuple (l.2.map PyData.int)) && true))) = true
  rw [q]
  rfl
theorem lps_all : ∀ {ls : List Lp}, (∀ l ∈ ls, l.2.length ≤ 1000) → fewAll (ls.map lpD) = true ∧ PyData.depthAll (ls.map lpD) ≤ 2
  | [], _ => ⟨rfl, Nat.zero_le _⟩
  | l :: r, h => by
    obtain ⟨a, c⟩ := lps_all (ls := r) fun m hm => h m (List.mem_cons_of_mem _ hm)
    obtain ⟨_, e⟩ := lay_ints l.2
    refine ⟨?_, ?_⟩
    · rw [List.map_cons, fewAll, a, few_lp (h l List.mem_cons_self)]
      rfl
    · simp only [List.map_cons, PyData.depthAll, lpD, PyData.depth, e]
      omega
theorem lay_thr {ls : List Lp} (h : PyData.canLayAll0 (ls.map lpD) = true) : ∀ n ∈ ls.map (·.1), (PyData.str n).canLay0 = true := fun n hn => by
  obtain ⟨l, hl, rfl⟩ := List.mem_map.mp hn
  have q := lay_mem h (List.mem_map.mpr ⟨l, hl, rfl⟩)
  have q2 : PyData.canLayAll0 [.str l.1, .tuple (l.2.map PyData.int)] = true := by simpa only [lpD, PyData.canLay0] using q
  exact lay_mem q2 List.mem_cons_self
theorem ints_back {K : PySem.W.Frag} {H : Hp} : ∀ {vs : List V} {ns : List Int}, DpAll K H vs (ns.map PyData.int) → vs = ns.map V.int
  | _, [], .nil => rfl
  | _, n :: r, .cons (.int _) t => by rw [ints_back t]; rfl
theorem dp_strs {K : PySem.W.Frag} {H : Hp} : ∀ ys : List Str, DpAll K H (ys.map V.str) (ys.map PyData.str)
  | [] => .nil
  | y :: r => .cons (.str y) (dp_strs r)
theorem same_two {H : Hp} {p : Addr} {o o' : HO} (h : H p = none) : Same H (L2.upd (L2.upd H p o) p o') := fun b u e => by
  rw [upd_ne (ne_of_none e h), upd_ne (ne_of_none e h)]
  exact e
theorem sz63 {n : Nat} (h : n ≤ 1000) : n < sizeLine := Nat.lt_of_le_of_lt h (by decide)
section
variable {P : Program} {w : World} {K : PySem.W.Frag} {mg : Str → Option Value} {base : Heap} {CC : Addr}
end
end B7
/-! Sets of ints that set(xs) makes: set(xs), in, not in, add. -/
namespace MXp
open PySem PySem.Spec PyProof.Rows L2
def SetI (P : Program) (w : World) (a : Addr) (S : Int → Bool) (n : Nat) : HO := .ext fun h => h.SetOf (intKind P w) a S n
theorem of_at {P : Program} {w : World} {h h' : Heap} {a : Addr} {S : Int → Bool} {n : Nat} (R : h.SetOf (intKind P w) a S n) (k : ∀ o, h.get? a = some o → h'.get? a = some o) : h'.SetOf (intKind P w) a S n := by
  obtain ⟨o, es, ep, t, e, r⟩ := R
  exact ⟨o, es, ep, t, k o e, r⟩
theorem si_obj {P Pr : Program} {w w' : World} {H : Hp} {h : Heap} {a : Addr} {S : Int → Bool} {n : Nat} (R : h.SetOf (intKind P w) a S n) : ObjOk Pr w' H h a (SetI P w a S n) := by
  have ⟨o, _, _, _, e, _⟩ := R
  exact ⟨R, ⟨o, e⟩, fun h1 h2 p k => of_at p k⟩
section
variable {X : Cx}
theorem si_get {pins : List (Addr × Obj)} {σ : L2.St} {H : Hp} {s : Shared} {a : Addr} {S : Int → Bool} {n : Nat} (I : Inv X pins σ H s) (e : H a = some (SetI X.prog X.w a S n)) : s.heap.SetOf (intKind X.prog X.w) a S n := (I.hok a _ e).1
/-- set(xs), xs a list of ints -/
def rSetOfI (K : PySem.W.Frag) (P : Program) (w : World) : List V → Hp → VK → Prop := fun vs H Q => ∃ (l : Addr) (ns : List Int), vs = [V.ref l] ∧ SqL K H l (ns.map V.int) ∧ ns.length ≤ 4000 ∧
  ∀ (p : Addr) (c : Nat), H p = none → c ≤ ns.length → Q (.ref p) (upd H p (SetI P w p (fun k => decide (k ∈ ns)) c))
theorem met_mem (ns : List Int) (k : Int) : (PyProof.Rows.firstMet (fun i => ns.getD i 0) ns.length).any (· == k) = decide (k ∈ ns) := by
  rw [PyProof.Rows.firstMet_any]
  have e : (List.range ns.length).map (fun i => ns.getD i 0) = ns := by
    apply List.ext_getElem?
    intro i
    rw [List.getElem?_map]
    by_cases h : i < ns.length
    · rw [List.getElem?_range h, List.getElem?_eq_getElem h, Option.map_some, List.getD_eq_getElem?_getD, List.getElem?_eq_getElem h]
      rfl
    · rw [List.getElem?_eq_none (by rw [List.length_range]; omega), List.getElem?_eq_none (by omega)]
      rfl
  rw [e, Bool.eq_iff_iff, List.any_eq_true]
  simp
theorem cr_setOfI (hc : X.calm = true) : CallR X (.type "set") (rSetOfI X.K X.prog X.w) := by
  intro pins s σ H vs us Q I r h
  obtain ⟨l, ns, rfl, hq, hl, q⟩ := h
  rw [Vals.ref1 r]
  obtain ⟨its, rv, pl, hz⟩ := I.list hq
  have hlen : its.toArray.size = ns.length := by rw [List.size_toArray, ← rv.length, List.length_map]
  refine call_set_list (I.ok.hd hc) pl.isList (by simpa using RZ.intsAre_vals rv) (by rw [hlen]; unfold scanBound; omega) fun h' tk hS hk => ?_
  rw [hlen] at hS
  have hS2 := PyProof.Rows.SetOf_congr hS (met_mem ns) rfl
  exact ⟨.ref s.heap.objs.size, upd H s.heap.objs.size (SetI X.prog X.w s.heap.objs.size (fun k => decide (k ∈ ns)) _), I.laid (t' := tk) (fun b o e => hk b o (Heap.lt_size e) e) (Nat.le_refl _) (si_obj hS2), rfl, q _ _ (I.hok.fresh (Nat.le_refl _)) (PyProof.Rows.firstMet_length_le _ _)⟩
def rIIn (P : Program) (w : World) : V → V → Hp → VK → Prop := fun x y H Q => ∃ k a S n, x = V.int k ∧ y = V.ref a ∧ H a = some (SetI P w a S n) ∧ Q (.bl (S k)) H
def rINot (P : Program) (w : World) : V → V → Hp → VK → Prop := fun x y H Q => ∃ k a S n, x = V.int k ∧ y = V.ref a ∧ H a = some (SetI P w a S n) ∧ Q (.bl (!S k)) H
theorem or_iin : OpR X (compareOp .In) (rIIn X.prog X.w) := by
  intro pins s σ H x y v u Q I rx ry h
  obtain ⟨k, a, S, n, rfl, rfl, ha, q⟩ := h
  obtain ⟨tk, rfl⟩ := rx
  cases ry
  exact wpAny_inSet_of (intKind_is _ _ _ _) rfl (si_get I ha) ⟨.bl (S k), H, I.tok _, rfl, q⟩
theorem or_inot : OpR X (compareOp .NotIn) (rINot X.prog X.w) := by
  intro pins s σ H x y v u Q I rx ry h
  obtain ⟨k, a, S, n, rfl, rfl, ha, q⟩ := h
  obtain ⟨tk, rfl⟩ := rx
  cases ry
  exact wpAny_notInSet_of (intKind_is _ _ _ _) rfl (si_get I ha) ⟨.bl (!S k), H, I.tok _, rfl, q⟩
/-- the same in a block, its row said by letters -/
theorem inI {P : Program} {w : World} (e : X.prog = P := by rfl) (e2 : X.w = w := by rfl) : OpR X (compareOp .In) (rIIn P w) := by
  subst e e2
  exact or_iin
theorem ninI {P : Program} {w : World} (e : X.prog = P := by rfl) (e2 : X.w = w := by rfl) : OpR X (compareOp .NotIn) (rINot P w) := by
  subst e e2
  exact or_inot
def rIAdd (P : Program) (w : World) : V → List V → Hp → VK → Prop := fun x xs H Q => ∃ (a : Addr) (k : Int) (S : Int → Bool) (n : Nat), x = V.ref a ∧ xs = [V.int k] ∧ H a = some (SetI P w a S n) ∧ n + 1 < scanBound ∧
  ∀ m, m ≤ n + 1 → Q .non (upd H a (SetI P w a (fun j => S j || decide (j = k)) m))
theorem mt_iadd : MtR X "set.add" (rIAdd X.prog X.w) := by
  intro pins s σ H x xs v us Q I rx rxs h
  obtain ⟨a, k, S, n, rfl, rfl, ha, room, q⟩ := h
  cases rx
  cases rxs with
  | cons ry rt =>
    cases rt
    obtain ⟨tk, rfl⟩ := ry
    have R := si_get I ha
    refine call_set_add (intKind_is _ _ _ _) rfl R room fun h' sb new => ?_
    have he : ∃ u, h'.get? a = some u := by
      have ⟨o, _, _, _, ho, _⟩ := new
      exact ⟨o, ho⟩
    refine ⟨.non, upd H a (SetI X.prog X.w a (fun j => S j || decide (j = k)) (if S k = true then n else n + 1)), I.write (e := a) (t' := s.toks + 1) (by rw [ha]; trivial) (.inl rfl) (fun b u hb hu => (sb.2 b hb).trans hu) he (si_obj new), rfl, q _ ?_⟩
    split <;> omega
def tIAdd (P : Program) (w : World) (to : TE) (t : TA) : TE := fun σ H Q => to σ H fun x H1 => (∃ a S n, x = V.ref a ∧ H1 a = some (SetI P w a S n)) ∧ t σ H1 fun xs H2 => rIAdd P w x xs H2 Q
theorem pe_iadd {o e : Expr} {es : List Expr} {to : TE} {t : TA} {apos cpos : Pos} (ho : PE X o to) (ha : PA X (e :: es) t)
    (hbase : attributeBase o "add" X.env (eval o X.env) = eval o X.env := by rfl)
    (hfew : ((backTo cpos (starEach (e :: es) X.env)).all (fun x => !x.1) && (backToKw cpos (keywordEach [] X.env)).all (fun x => x.1.isSome)
      && decide ((e :: es).length + ([] : List Keyword).length + (if ([] : List Keyword).isEmpty then 0 else 1) < 30)) = true := by rfl)
    (hline : (apos.endLine == cpos.line) = true := by rfl) (hs : starEach (e :: es) X.env = (false, eval e X.env) :: starEach es X.env := by rfl) (hplain : (backTo cpos (starEach es X.env)).any (·.1) = false := by rfl) :
    PE X (.Call (.Attribute o "add" apos) (e :: es) [] cpos) (tIAdd X.prog X.w to t) := by
  refine ⟨fun pins s σ H Q I h => ?_⟩
  refine wpAny_Call_method_late hbase hfew hline rfl (thn (ho.run pins s σ H _ I h) fun v s1 ⟨x, H1, I1, r1, ty, q1⟩ => ?_)
  obtain ⟨a, S, n, rfl, hka⟩ := ty
  have hS := si_get I1 hka
  cases r1
  refine ⟨"set", "set.add", F.plainAttrs_set, F.slot_set_add, F.type_set_add, hS.typeIs, hS.noDict, ?_⟩
  have hA := ha.run cpos pins s1 σ H1 _ I1 q1
  rw [hs] at hA ⊢
  refine Calls.callWith_builtin (by show (false || (backTo cpos (starEach es X.env)).any (·.1)) = false; rw [hplain] <;> rfl) (Calls.evalArgs_plain ?_)
  exact thn hA fun us s2 ⟨vs, H2, I2, r2, q2⟩ => mt_iadd pins s2 σ H2 (.ref a) vs (.ref a) us Q I2 rfl r2 q2
theorem cr_setK {P : Program} {w : World} {K : PySem.W.Frag} (hc : X.calm = true) (e : X.K = K := by rfl) (e1 : X.prog = P := by rfl) (e2 : X.w = w := by rfl) : CallR X (.type "set") (rSetOfI K P w) := by
  subst e e1 e2
  exact cr_setOfI hc
theorem pe_iaddK {P : Program} {w : World} {o e : Expr} {es : List Expr} {to : TE} {t : TA} {apos cpos : Pos} (ho : PE X o to) (ha : PA X (e :: es) t) (e1 : X.prog = P := by rfl) (e2 : X.w = w := by rfl)
    (hbase : attributeBase o "add" X.env (eval o X.env) = eval o X.env := by rfl)
    (hfew : ((backTo cpos (starEach (e :: es) X.env)).all (fun x => !x.1) && (backToKw cpos (keywordEach [] X.env)).all (fun x => x.1.isSome)
      && decide ((e :: es).length + ([] : List Keyword).length + (if ([] : List Keyword).isEmpty then 0 else 1) < 30)) = true := by rfl)
    (hline : (apos.endLine == cpos.line) = true := by rfl) (hs : starEach (e :: es) X.env = (false, eval e X.env) :: starEach es X.env := by rfl) (hplain : (backTo cpos (starEach es X.env)).any (·.1) = false := by rfl) :
    PE X (.Call (.Attribute o "add" apos) (e :: es) [] cpos) (tIAdd P w to t) := by
  subst e1 e2
  exact pe_iadd ho ha hbase hfew hline hs hplain
end
end MXp
/-! The program: check_lot of right lots, standing. -/
namespace B7
open PySem PySem.Spec PyProof.Rows L2 LK MXo MXi MXp
abbrev sLot : Stmt := top 15
abbrev sStd : Stmt := top 18
theorem scLot : FnScope ["lot", "many", "index"] ["lot", "many"] (defScope sLot) := ⟨rfl, rfl, rfl, by decide +kernel, rfl, by decide +kernel, by decide +kernel⟩
theorem scStd : FnScope ["cloth", "cuts", "loops", "cut", "held", "found", "loop", "parent"] ["cloth", "cuts"] (defScope sStd) := ⟨rfl, rfl, rfl, by decide +kernel, rfl, by decide +kernel, by decide +kernel⟩
theorem lot_ok {n : Nat} {ns : List Int} (h : OkFs n ns) : lotFault (n : Int) (.list (ns.map PyData.int)) = none := by
  show ((List.range (ns.map PyData.int).length).find? (lotBad (n : Int) (ns.map PyData.int))).map (fun k : Nat => (k : Int)) = none
  rw [find_all fun k hk => ?_]
  · rfl
  rw [List.length_map] at hk
  have e : (ns.map PyData.int)[k]? = some (.int ns[k]) := by rw [List.getElem?_map, List.getElem?_eq_getElem hk]; rfl
  have r := h.2 _ (List.getElem_mem hk)
  rw [lotBad_int e (by rw [isNumD]; exact decide_eq_true r), ← List.map_take, hasInt_ints]
  refine decide_eq_false fun m => ?_
  obtain ⟨j, hj, ej⟩ := List.getElem_of_mem m
  rw [List.getElem_take] at ej
  rw [List.length_take] at hj
  exact absurd ej (List.pairwise_iff_getElem.mp h.1 j k (by omega) hk (by omega))
theorem tame_ints : ∀ ns : List Int, tameAll (ns.map PyData.int) = true
  | [] => rfl
  | n :: r => tame_ints r
/-- what is neither a list nor a set stays -/
def Pz (H H' : Hp) : Prop := ∀ b o, (∀ z, o ≠ .ext z) → (∀ xs, o ≠ .lst xs) → H b = some o → H' b = some o
theorem sqT_pz {K : PySem.W.Frag} {H H' : Hp} {a : Addr} {xs : List V} (e : Pz H H') (h : SqT K H a xs) : SqT K H' a xs := by
  rcases h with (h | ⟨o, h⟩) | h
  · exact .inl (.inl (e _ _ (fun _ q => by cases q) (fun _ q => by cases q) h))
  · exact .inl (.inr ⟨o, e _ _ (fun _ q => by cases q) (fun _ q => by cases q) h⟩)
  · exact .inr h
def spOkLot (K : PySem.W.Frag) : Sp := fun vs H Q _ => ∃ (a : Addr) (n : Nat) (ns : List Int), vs = [.ref a, .int n] ∧ SqL K H a (ns.map V.int) ∧ OkFs n ns ∧ ns.length ≤ 1000 ∧ ∀ H', Same H H' → Q .non H'
/-- the cloth's properties, and len -/
structure Pr2 (P : Program) (w : World) (K : PySem.W.Frag) (mg : Str → Option Value) (base : Heap) (CC : Addr) where
  (pL pF gL gF gN : Addr)
  (fL fF fN : FuncData)
  aL : PropOf K CC "loops" pL gL
  aF : PropOf K CC "fast" pF gF
  aN : LenOf K CC gN
  bL : Binds K fL ["self"] []
  bF : Binds K fF ["self"] []
  bN : Binds K fN ["self"] []
  oL : FnOk P w K mg base CX0 1 gL fL ["self"] (spCopy K CC "_loops")
  oF : FnOk P w K mg base CX0 1 gF fF ["self"] (spCopy K CC "_fast")
  oN : FnOk P w K mg base CX0 1 gN fN ["self"] (spSize K CC)
  cc : Cls K CC
  n1 : NoAttr K CC "_loops"
  n2 : NoAttr K CC "_fast"
/-- loops of few parents -/
def Thin (ls : List Lp) : Prop := ls.length ≤ 100 ∧ ∀ l ∈ ls, l.2.length ≤ 5
def spStd (K : PySem.W.Frag) (CC : Addr) : Sp := fun vs H Q _ => ∃ (x ca : Addr) (ls : List Lp) (ms cuts : List Int), vs = [.ref x, .ref ca] ∧ IsC K CC H x ls ms ∧ Thin ls ∧ ms.length ≤ 100 ∧ SqL K H ca (cuts.map V.int) ∧ OkFs ls.length cuts ∧
  ∀ (p : Addr) (H' : Hp), H p = none → Same H H' → H' p = some (.lst (nI (upL ls ms cuts ls.length).reverse)) → Q (.ref p) H'
section
variable {P : Program} {w : World} {K : PySem.W.Frag} {mg : Str → Option Value} {base : Heap} {CC : Addr}
theorem ok_lot {f fo : Addr} {fd fdo : FuncData} (F : Fun K "check_lot" "check_lot" sLot f fd) (B : Bl mg) (Go : FnOk P w K mg base CX0 3 fo fdo ["numbers", "many"] (spLot K)) (go : mg "wrong_number" = some (.ref fo)) (ko : PySem.W.keepIn K (.ref fo) = true) (bo : Binds K fdo ["numbers", "many"] []) : FnOk P w K mg base CX0 4 f fd ["lot", "many"] (spOkLot K) := by
  refine F.ok scLot (fun vs H Q E h => ?_) (fun cdv A outer s H vs Q E hr h => ?_)
  · obtain ⟨a, n, ns, rfl, _⟩ := h
    rfl
  · obtain ⟨a, n, ns, rfl, ha, ok, ln, k⟩ := h
    refine ⟨_, pss_cons (ps_set (i := 2) scLot.nd rfl (Or.inl rfl) (pe_call (E := E0) Go (hr.mono (by decide)) rfl go ko bo .nil pass0 (pa_cons (pv 0) (pa_cons (pv 1) pa_nil))))
      (pss_one (ps_if (pt_cmpR op_notN (pv 2) pe_non (nomark _)) pss_never pss_nil)), ?_⟩
    refine ⟨_, rfl, _, rfl, .ref a, .list (ns.map PyData.int), n, rfl, .lst ha (dp_ints_of ns), ?_, fun H1 s1 => ?_⟩
    · rw [tame, tame_ints, Bool.and_true, List.length_map]
      exact decide_eq_true ln
    · rw [lot_ok ok]
      exact ⟨_, rfl, rfl, _, rfl, LK.ifF (show (!decide (V.non = V.non)) = false by simp) (k H1 s1)⟩
theorem ok_std {f fo : Addr} {fd fdo : FuncData} (R : Pr2 P w K mg base CC) (F : Fun K "standing" "standing" sStd f fd) (B : Bl mg) (Go : FnOk P w K mg base CX0 4 fo fdo ["lot", "many"] (spOkLot K)) (go : mg "check_lot" = some (.ref fo)) (ko : PySem.W.keepIn K (.ref fo) = true) (bo : Binds K fdo ["lot", "many"] []) : FnOk P w K mg base CX0 5 f fd ["cloth", "cuts"] (spStd K CC) := by
  refine F.ok scStd (fun vs H Q E h => ?_) (fun cdv A outer s H vs Q E hr h => ?_)
  · obtain ⟨x, ca, _, _, _, rfl, _⟩ := h
    rfl
  · obtain ⟨x, ca, ls, ms, cuts, rfl, ⟨dx, L0, G0, xs, hx, hL, dl, hG⟩, thin, lm, hc, ok, k⟩ := h
    refine ⟨_, pss_cons (ps_set (i := 2) scStd.nd rfl (Or.inl rfl) (pe_prop (pv 0) R.cc R.aL R.oL (hr.mono (by decide)) R.bL .nil pass0 (by rfl)))
      (pss_cons (ps_expr (pe_call (E := E0) Go (hr.mono (by decide)) rfl go ko bo .nil pass0 (pa_cons (pv 1) (pa_cons (pe_callB call_len_seq (by rfl) (B "len" (by decide)) (by decide +kernel) (pa_cons (pv 2) pa_nil)) pa_nil))))
      (pss_cons (ps_set (i := 3) scStd.nd rfl (Or.inl rfl) (pe_callTy (cr_setK (K := K) (P := P) (w := w) rfl) (by rfl) (B "set" (by decide)) (by decide +kernel) (pa_cons (pv 1) pa_nil)))
      (pss_cons (ps_set (i := 4) scStd.nd rfl (Or.inl rfl) (pe_callTy (cr_setK (K := K) (P := P) (w := w) rfl) (by rfl) (B "set" (by decide)) (by decide +kernel) (pa_cons (pe_prop (pv 0) R.cc R.aF R.oF (hr.mono (by decide)) R.bF .nil pass0 (by rfl)) pa_nil)))
      (pss_cons (ps_set (i := 5) scStd.nd rfl (Or.inl rfl) (pe_lst pa_nil))
      (pss_cons (ps_for PassesOwn.never rfl (pi_revR (by rfl) (B "reversed" (by decide)) (prg_1 (by rfl) (B "range" (by decide)) (pe_callB call_len_seq (by rfl) (B "len" (by decide)) (by decide +kernel) (pa_cons (pv 2) pa_nil)))) (pg_name (i := 6) scStd.nd rfl (Or.inl rfl)) (pss_one (ps_if (PW.pt (pw_and (pt_cmpR (inI (P := P) (w := w)) (pv 6) (pv 4) (by rfl)) (pw_and1 (pt_cmpR (ninI (P := P) (w := w)) (pv 6) (pv 3) (by rfl))))) (pss_cons (ps_expr (pe_bm PySem.F.plainAttrs_list PySem.F.slot_list_append PySem.F.type_list_append mt_append (pv 5) (pa_cons (pv 6) pa_nil)))
      (pss_one (ps_for PassesOwn.never rfl (pi_tup (pe_ix (ixt (K := K)) (pe_ix ix_list (pv 2) (pv 6) (fun _ _ => rfl)) pe_int (fun _ _ => rfl))) (pg_name (i := 7) scStd.nd rfl (Or.inl rfl)) (pss_one (ps_expr (pe_iaddK (P := P) (w := w) (pv 4) (pa_cons (pv 7) pa_nil))))))) pss_nil)))
      (pss_one (ps_ret (pe_revL (pv 5))))))))), ?_⟩
    have xl : xs.length = ls.length := by rw [dps_len dl, List.length_map]
    have ty2 : sizeLine = 16777216 := sizeLine_eq
    have sb : scanBound = 4096 := rfl
    obtain ⟨ln, thn⟩ := thin
    refine ⟨_, rfl, x, dx, _, rfl, hx, x, dx, L0, _, xs, rfl, hx, R.cc, R.n1, rfl, hL, fun L nL => ?_⟩
    have s1 := same_new (o := .lst xs) nL
    refine ⟨_, rfl, _, rfl, L, _, rfl, .inl (SqL.of upd_same), ?_⟩
    refine ⟨ca, xs.length, cuts, rfl, s1.seq hc, by rw [xl]; exact ok, by have := ok.len; omega, fun H1 s1' => ?_⟩
    have s2 := s1.trans s1'
    have eL1 := s1' _ _ (upd_same (H := H) (a := L) (o := .lst xs))
    refine ⟨_, rfl, ca, cuts, rfl, s2.seq hc, by have := ok.len; omega, fun U u nU ul => ?_⟩
    have s3' := same_new (o := SetI P w U (fun k => decide (k ∈ cuts)) u) nU
    have s3 := s2.trans s3'
    refine ⟨_, rfl, x, dx, _, rfl, s3 _ _ hx, x, dx, G0, _, ms.map V.int, rfl, s3 _ _ hx, R.cc, R.n2, rfl, s3 _ _ hG, fun G nG => ?_⟩
    have s4' := same_new (o := .lst (ms.map V.int)) nG
    refine ⟨G, ms, rfl, SqL.of upd_same, by omega, fun T c nT cl => ?_⟩
    have s5' := same_new (o := SetI P w T (fun k => decide (k ∈ ms)) c) nT
    refine ⟨by show 0 ≤ sizeLine; decide, fun J nJ => ?_⟩
    have s6' := same_new (o := .lst []) nJ
    have s35 := (s3'.trans s4').trans s5'
    have sH4 := s3.trans s4'
    have sH5 := sH4.trans s5'
    have nJH := gone sH5 nJ
    have nTH := gone sH4 nT
    have eL := s6' _ _ (s35 _ _ eL1)
    have eU := s6' _ _ (s5' _ _ (s4' _ _ (upd_same (H := H1) (a := U) (o := SetI P w U (fun k => decide (k ∈ cuts)) u))))
    have eT := s6' _ _ (upd_same (H := upd (upd H1 U (SetI P w U (fun k => decide (k ∈ cuts)) u)) G (.lst (ms.map V.int))) (a := T) (o := SetI P w T (fun k => decide (k ∈ ms)) c))
    have sH := sH5.trans s6'
    have eJ := upd_same (H := upd (upd (upd H1 U (SetI P w U (fun k => decide (k ∈ cuts)) u)) G (.lst (ms.map V.int))) T (SetI P w T (fun k => decide (k ∈ ms)) c)) (a := J) (o := .lst [])
    generalize upd (upd (upd (upd H1 U (SetI P w U (fun k => decide (k ∈ cuts)) u)) G (.lst (ms.map V.int))) T (SetI P w T (fun k => decide (k ∈ ms)) c)) J (.lst []) = B0 at eL eU eT sH eJ
    have JL : J ≠ L := fun e => by subst e; rw [(s35 _ _ eL1)] at nJ; cases nJ
    refine ⟨_, rfl, L, xs, rfl, .inl (SqL.of eL), _, rfl, by omega, by omega, by omega, by omega, ?_⟩
    have en : ((xs.length : Int) - 0).toNat = ls.length := by omega
    have UT : U ≠ T := fun e => by subst e; rw [s4' _ _ (upd_same (H := H1) (a := U))] at nT; cases nT
    have UJ : U ≠ J := fun e => by subst e; rw [s5' _ _ (s4' _ _ (upd_same (H := H1) (a := U)))] at nJ; cases nJ
    have TJ : T ≠ J := fun e => by subst e; rw [upd_same] at nJ; cases nJ
    have LT : L ≠ T := fun e => by subst e; rw [s4' _ _ (s3' _ _ eL1)] at nT; cases nT
    refine for_rangeC (lo := 0 + ((((xs.length : Int) - 0).toNat : Nat) : Int) - 1) (c := -1) (n := ((xs.length : Int) - 0).toNat) (fun i σ Hn => ∃ (o6 o7 : Option V) (S : Int → Bool) (n : Nat), σ = [some (.ref x), some (.ref ca), some (.ref L), some (.ref U), some (.ref T), some (.ref J), o6, o7] ∧ Same H Hn ∧ Hn L = some (.lst xs) ∧ Hn U = some (SetI P w U (fun k => decide (k ∈ cuts)) u) ∧ Hn T = some (SetI P w T S n) ∧ Hn J = some (.lst (nI (upL ls ms cuts i))) ∧ n ≤ 100 + 5 * i ∧ (∀ k : Nat, S (k : Int) = (decide ((k : Int) ∈ ms) || (upL ls ms cuts i).any fun j => decide ((k : Int) ∈ parOf ls j))))
      ⟨_, _, fun k => decide (k ∈ ms), c, rfl, sH, eL, eU, eT, eJ, by omega, fun k => by rw [show upL ls ms cuts 0 = [] from rfl]; simp⟩ (fun i σ Hn hi hI => ?_) (fun σ Hn hI => ?_)
    · obtain ⟨o6, o7, S, n, rfl, sn, eLn, eUn, eTn, eJn, nb, hS⟩ := hI
      have ek : 0 + ((((xs.length : Int) - 0).toNat : Nat) : Int) - 1 + (i : Int) * (-1) = ((ls.length - 1 - i : Nat) : Int) := by omega
      rw [ek]
      generalize hk : ls.length - 1 - i = q
      have uN : ∀ b, upB ls ms cuts (upL ls ms cuts i) q = b → upL ls ms cuts (i + 1) = if b = true then upL ls ms cuts i ++ [q] else upL ls ms cuts i := fun b e => by
        rw [← e, ← hk]
        rfl
      have uG := upL_len ls ms cuts i
      have stayF : upB ls ms cuts (upL ls ms cuts i) q = false → ∃ (o6' o7' : Option V) (S : Int → Bool) (n : Nat), [some (V.ref x), some (.ref ca), some (.ref L), some (.ref U), some (.ref T), some (.ref J), some (.int (q : Int)), o7] = [some (.ref x), some (.ref ca), some (.ref L), some (.ref U), some (.ref T), some (.ref J), o6', o7'] ∧ Same H Hn ∧ Hn L = some (.lst xs) ∧ Hn U = some (SetI P w U (fun k => decide (k ∈ cuts)) u) ∧ Hn T = some (SetI P w T S n) ∧ Hn J = some (.lst (nI (upL ls ms cuts (i + 1)))) ∧ n ≤ 100 + 5 * (i + 1) ∧ (∀ k : Nat, S (k : Int) = (decide ((k : Int) ∈ ms) || (upL ls ms cuts (i + 1)).any fun j => decide ((k : Int) ∈ parOf ls j))) := fun ub => by
        have e := uN _ ub
        rw [if_neg (by decide)] at e
        exact ⟨_, _, S, n, rfl, sn, eLn, eUn, eTn, by rw [e]; exact eJn, by omega, fun k => by rw [e]; exact hS k⟩
      refine ⟨_, rfl, _, rfl, (q : Int), T, S, n, rfl, rfl, eTn, _, rfl, ?_⟩
      rw [hS q]
      by_cases c1 : (decide ((q : Int) ∈ ms) || (upL ls ms cuts i).any fun j => decide ((q : Int) ∈ parOf ls j)) = true
      · refine LK.ifT c1 ⟨_, rfl, _, rfl, (q : Int), U, _, u, rfl, rfl, eUn, _, rfl, ?_⟩
        by_cases c2 : (q : Int) ∈ cuts
        · refine LK.ifF (by rw [decide_eq_true c2]; rfl) (stayF ?_)
          unfold upB
          rw [decide_eq_false (fun z => z c2)]
          rfl
        · refine LK.ifT (by rw [decide_eq_false c2]; rfl) ?_
          have ub : upB ls ms cuts (upL ls ms cuts i) q = true := by
            unfold upB
            rw [decide_eq_true c2, c1]
            rfl
          have e1 := uN _ ub
          rw [if_pos rfl] at e1
          have ql : q < ls.length := by omega
          obtain ⟨v1, d1, q1, q2, q3⟩ := dps_at (dps_same sn dl) (i := q) (by rw [List.length_map]; omega)
          rw [List.getElem?_map] at q2
          obtain ⟨l, hl1, rfl⟩ := Option.map_eq_some_iff.mp q2
          have ep : parOf ls q = l.2 := by unfold parOf; rw [hl1]
          have l5 := thn l (List.mem_of_getElem? hl1)
          refine ⟨_, rfl, .inl ⟨rfl, _, SqL.of eJn⟩, _, rfl, J, _, _, rfl, rfl, eJn, by rw [List.length_map]; omega, ?_⟩
          have newJ : Same H (upd Hn J (.lst (nI (upL ls ms cuts i) ++ [.int (q : Int)]))) := fun b o e => by
            rw [upd_ne (ne_of_none e nJH)]
            exact sn _ _ e
          have pz0 : Pz Hn (upd Hn J (.lst (nI (upL ls ms cuts i) ++ [.int (q : Int)]))) := fun b o _ n2 e => by
            rw [upd_ne (ne_of e eJn (n2 _))]
            exact e
          cases q3 with
          | tup st da =>
            cases da with
            | cons d1 da =>
              cases d1
              cases da with
              | cons d2 dn =>
                cases dn
                cases d2 with
                | @tup pt _ _ st2 da2 =>
                  have ex := dp_ints da2
                  subst ex
                  refine ⟨_, rfl, _, rfl, L, xs, (q : Int), _, rfl, rfl, SqL.of (by rw [upd_ne JL.symm]; exact eLn), atI_nat q1, _, _, 1, _, rfl, rfl, sqT_pz pz0 st, atI_nat (j := 1) rfl, pt, rfl, ⟨_, sqT_pz pz0 st2⟩, ?_⟩
                  refine for_tup (K := K) (a := pt) (xs := l.2.map V.int) (fun j σ H' => ∃ (o7 : Option V) (S' : Int → Bool) (n' : Nat), σ = [some (.ref x), some (.ref ca), some (.ref L), some (.ref U), some (.ref T), some (.ref J), some (.int (q : Int)), o7] ∧ Pz Hn H' ∧ Same H H' ∧ H' L = some (.lst xs) ∧ H' U = some (SetI P w U (fun k => decide (k ∈ cuts)) u) ∧ H' T = some (SetI P w T S' n') ∧ H' J = some (.lst (nI (upL ls ms cuts (i + 1)))) ∧ n' ≤ n + j ∧ ∀ k : Nat, S' (k : Int) = (S (k : Int) || decide ((k : Int) ∈ l.2.take j)))
                    ⟨_, S, n, rfl, pz0, newJ, by rw [upd_ne JL.symm]; exact eLn, by rw [upd_ne UJ]; exact eUn, by rw [upd_ne TJ]; exact eTn, ?_, by omega, fun k => by simp⟩
                    (fun j σ H' hj hJ => by obtain ⟨_, _, _, _, pz, _⟩ := hJ; exact sqT_pz pz st2) (fun j y σ H' hy hJ => ?_) (fun σ H' hJ => ?_)
                  · rw [upd_same, e1]
                    unfold nI
                    rw [List.map_append]
                    rfl
                  · obtain ⟨o7, S', n', rfl, pz, sH', eL', eU', eT', eJ', nb', hS'⟩ := hJ
                    rw [List.getElem?_map] at hy
                    obtain ⟨z, hz, rfl⟩ := Option.map_eq_some_iff.mp hy
                    have jl : j < l.2.length := (List.getElem?_eq_some_iff.mp hz).1
                    refine ⟨_, rfl, ⟨T, _, _, rfl, eT'⟩, _, rfl, T, z, S', n', rfl, rfl, eT', by omega, fun m hm => ⟨_, _, m, rfl, fun b o n1 n2 e => ?_, fun b o e => ?_, ?_, ?_, upd_same, ?_, by omega, fun k => ?_⟩⟩
                    · by_cases bT : b = T
                      · subst bT
                        have := pz b o n1 n2 e
                        rw [eT'] at this
                        exact absurd (Option.some.inj this).symm (n1 _)
                      · rw [upd_ne bT]
                        exact pz b o n1 n2 e
                    · rw [upd_ne (ne_of_none e nTH)]
                      exact sH' _ _ e
                    · rw [upd_ne LT]
                      exact eL'
                    · rw [upd_ne UT]
                      exact eU'
                    · rw [upd_ne TJ.symm]
                      exact eJ'
                    · show (S' (k : Int) || decide ((k : Int) = z)) = _
                      rw [hS' k, List.take_add_one, hz, Option.toList_some, Bool.eq_iff_iff]
                      simp only [Bool.or_eq_true, decide_eq_true_eq, List.mem_append, List.mem_singleton, or_assoc]
                  · obtain ⟨o7, S', n', rfl, pz, sH', eL', eU', eT', eJ', nb', hS'⟩ := hJ
                    rw [List.length_map] at nb' hS'
                    refine ⟨_, _, S', n', rfl, sH', eL', eU', eT', eJ', by omega, fun k => ?_⟩
                    rw [hS' k, List.take_length, hS k, e1, List.any_append, ← ep, Bool.or_assoc]
                    congr 1
                    simp
      · refine LK.ifF ((Bool.not_eq_true _).mp c1) (stayF ?_)
        unfold upB
        rw [(Bool.not_eq_true _).mp c1, Bool.and_false]
    · obtain ⟨o6, o7, S, n, rfl, sn, eLn, eUn, eTn, eJn, nb, hS⟩ := hI
      rw [en] at eJn
      refine ⟨_, rfl, J, _, rfl, SqL.of eJn, fun p np => k p _ (gone sn np) (sn.trans (same_new np)) ?_⟩
      rw [upd_same]
      unfold nI
      rw [List.map_reverse]
end
end B7
/-! The program: run, fits, least_run. -/
namespace B7
open PySem PySem.Spec PyProof.Rows L2 LK MXo MXi MXp
abbrev sRun : Stmt := top 19
abbrev sFits : Stmt := top 23
abbrev sLst : Stmt := top 24
theorem scRun : FnScope ["cloth", "cuts", "stands", "loop"] ["cloth", "cuts"] (defScope sRun) := ⟨rfl, rfl, rfl, by decide +kernel, rfl, by decide +kernel, by decide +kernel⟩
theorem scFits : FnScope ["cloth", "stood", "ran", "left", "loop"] ["cloth", "stood", "ran"] (defScope sFits) := ⟨rfl, rfl, rfl, by decide +kernel, rfl, by decide +kernel, by decide +kernel⟩
theorem scLst : FnScope ["cloth", "stood", "ran"] ["cloth", "stood", "ran"] (defScope sLst) := ⟨rfl, rfl, rfl, by decide +kernel, rfl, by decide +kernel, by decide +kernel⟩
def fitsD (ls : List Lp) (ms us ds : List Int) : Bool := us.all fun z => decide (z ∈ (upL ls ms ds ls.length).map fun k : Nat => (k : Int))
def spRun (K : PySem.W.Frag) (CC : Addr) : Sp := fun vs H Q _ => ∃ (x ca : Addr) (ls : List Lp) (ms cuts : List Int), vs = [.ref x, .ref ca] ∧ IsC K CC H x ls ms ∧ Thin ls ∧ ms.length ≤ 100 ∧ SqL K H ca (cuts.map V.int) ∧ OkFs ls.length cuts ∧
  ∀ (p : Addr) (H' : Hp), H p = none → Same H H' → H' p = some (.lst (nI (fallD ls ms cuts))) → Q (.ref p) H'
def spFits (K : PySem.W.Frag) (CC : Addr) : Sp := fun vs H Q _ => ∃ (x ua da : Addr) (ls : List Lp) (ms us ds : List Int), vs = [.ref x, .ref ua, .ref da] ∧ IsC K CC H x ls ms ∧ Thin ls ∧ ms.length ≤ 100 ∧ SqL K H ua (us.map V.int) ∧ SqL K H da (ds.map V.int) ∧ OkFs ls.length us ∧ OkFs ls.length ds ∧
  ∀ (H' : Hp), Same H H' → Q (.bl (fitsD ls ms us ds)) H'
def spLst (K : PySem.W.Frag) (CC : Addr) : Sp := fun vs H Q _ => ∃ (x ua da : Addr) (ls : List Lp) (ms us ds : List Int), vs = [.ref x, .ref ua, .ref da] ∧ IsC K CC H x ls ms ∧ Thin ls ∧ ms.length ≤ 100 ∧ SqL K H ua (us.map V.int) ∧ SqL K H da (ds.map V.int) ∧ OkFs ls.length us ∧ OkFs ls.length ds ∧
  (fitsD ls ms us ds = true → ∀ (p : Addr) (H' : Hp), H p = none → Same H H' → H' p = some (.lst (nI (fallD ls ms ds))) → Q (.ref p) H') ∧ (fitsD ls ms us ds = false → ∀ H', Same H H' → Q .non H')
section
variable {P : Program} {w : World} {K : PySem.W.Frag} {mg : Str → Option Value} {base : Heap} {CC : Addr}
theorem ok_run {f fo : Addr} {fd fdo : FuncData} (R : Pr2 P w K mg base CC) (F : Fun K "run" "run" sRun f fd) (B : Bl mg) (Go : FnOk P w K mg base CX0 5 fo fdo ["cloth", "cuts"] (spStd K CC)) (go : mg "standing" = some (.ref fo)) (ko : PySem.W.keepIn K (.ref fo) = true) (bo : Binds K fdo ["cloth", "cuts"] []) : FnOk P w K mg base CX0 6 f fd ["cloth", "cuts"] (spRun K CC) := by
  refine F.ok scRun (fun vs H Q E h => ?_) (fun cdv A outer s H vs Q E hr h => ?_)
  · obtain ⟨x, ca, _, _, _, rfl, _⟩ := h
    rfl
  · obtain ⟨x, ca, ls, ms, cuts, rfl, ic, thin, lm, hc, ok, k⟩ := h
    refine ⟨_, pss_cons (ps_set (i := 2) scRun.nd rfl (Or.inr rfl) (pe_callTy (cr_setK (K := K) (P := P) (w := w) rfl) (by rfl) (B "set" (by decide)) (by decide +kernel) (pa_cons (pe_call (E := E0) Go (hr.mono (by decide)) rfl go ko bo .nil pass0 (pa_cons (pv 0) (pa_cons (pv 1) pa_nil))) pa_nil)))
      (pss_one (ps_ret (pe_lc (own := [("loop", 3)]) (g := gName 3) rfl scRun.nd (pi_range1 (by rfl) (B "range" (by decide)) (pa_cons (pe_callB (call_lenO (E := E0) R.aN R.oN (hr.mono (by decide)) R.bN pass0) (by rfl) (B "len" (by decide)) (by decide +kernel) (pa_cons (pv 0) pa_nil)) pa_nil)) (blkOk_by (N := ["cloth", "cuts", "stands", "loop"]) (sc := defScope sRun) (by decide +kernel)) (fun _ _ _ _ _ => pg_name (i := 3) scRun.nd rfl (Or.inl rfl)) (fun _ _ _ _ _ => pts_one (pt_cmpR (ninI (P := P) (w := w)) (pv 3) (pv 2) (by rfl))) (fun _ _ _ _ _ => pv 3)))), ?_⟩
    have ty2 : sizeLine = 16777216 := sizeLine_eq
    have ln := thin.1
    refine ⟨_, rfl, _, rfl, x, ca, ls, ms, cuts, rfl, ic, thin, lm, hc, ok, fun U H1 nU s1 eU => ?_⟩
    have ul := upL_len ls ms cuts ls.length
    refine ⟨U, (upL ls ms cuts ls.length).reverse.map fun k : Nat => (k : Int), rfl, SqL.of (by rw [← nI_ints]; exact eU), by rw [List.length_map, List.length_reverse]; omega, fun T c nT cl => ?_⟩
    have s2' := same_new (o := SetI P w T (fun k => decide (k ∈ (upL ls ms cuts ls.length).reverse.map fun k : Nat => (k : Int))) c) nT
    have s2 := s1.trans s2'
    obtain ⟨dx, L, G, xs, hx, hL, dl, hG⟩ := ic.same s2
    have xl : xs.length = ls.length := by rw [dps_len dl, List.length_map]
    refine ⟨_, rfl, x, dx, _, rfl, hx, x, dx, L, _, xs, rfl, hx, R.cc, R.n1, rfl, hL, _, rfl, by omega, by omega, _, rfl, by omega, by omega, fun J nJ => ?_⟩
    have TJ : T ≠ J := ne_of_none (upd_same (a := T)) nJ
    have eT0 := upd_same (H := H1) (a := T) (o := SetI P w T (fun k => decide (k ∈ (upL ls ms cuts ls.length).reverse.map fun k : Nat => (k : Int))) c)
    generalize hB : upd H1 T (SetI P w T (fun k => decide (k ∈ (upL ls ms cuts ls.length).reverse.map fun k : Nat => (k : Int))) c) = B0 at *
    refine lc_range (lo := 0) (n := xs.length) (fun j H' => Same B0 H' ∧ H' J = some (.lst (nI ((List.range j).filter fun k => decide (k ∉ upL ls ms cuts ls.length)))))
      ⟨same_new nJ, upd_same⟩ (fun j H2 hj hh => ⟨rfl, ?_⟩) (fun H2 hh => ?_)
    · obtain ⟨sB, eJ⟩ := hh
      refine ⟨_, rfl, _, rfl, (0 + (j : Int)), T, _, c, rfl, rfl, sB _ _ eT0, _, rfl, ?_⟩
      rw [Int.zero_add, filt_more]
      have im : ((j : Int) ∈ (upL ls ms cuts ls.length).reverse.map fun k : Nat => (k : Int)) ↔ j ∈ upL ls ms cuts ls.length := by
        rw [List.mem_map]
        exact ⟨fun ⟨z, hz, e⟩ => by rw [show j = z by omega]; exact List.mem_reverse.mp hz, fun h => ⟨j, List.mem_reverse.mpr h, rfl⟩⟩
      by_cases c : j ∈ upL ls ms cuts ls.length
      · refine LK.ifF (by rw [decide_eq_true (im.mpr c)]; rfl) ⟨sB, ?_⟩
        rw [eJ]
        simp [c]
      · refine LK.ifT (by rw [decide_eq_false (fun z => c (im.mp z))]; rfl) ⟨_, rfl, _, eJ, ?_, fun b o e => ?_, ?_⟩
        · rw [List.length_map]
          have z := List.length_filter_le (fun k => decide (k ∉ upL ls ms cuts ls.length)) (List.range j)
          rw [List.length_range] at z
          omega
        · rw [upd_ne (ne_of_none e nJ)]
          exact sB _ _ e
        · rw [upd_same]
          unfold nI
          rw [List.map_append]
          simp [c]
    · obtain ⟨sB, eJ⟩ := hh
      rw [xl] at eJ
      exact k J _ (gone s2 nJ) (s2.trans sB) eJ
theorem ok_fits {f fo fl : Addr} {fd fdo fdl : FuncData} (R : Pr2 P w K mg base CC) (F : Fun K "fits" "fits" sFits f fd) (B : Bl mg) (Go : FnOk P w K mg base CX0 5 fo fdo ["cloth", "cuts"] (spStd K CC)) (go : mg "standing" = some (.ref fo)) (ko : PySem.W.keepIn K (.ref fo) = true) (bo : Binds K fdo ["cloth", "cuts"] [])
    (Gl : FnOk P w K mg base CX0 4 fl fdl ["lot", "many"] (spOkLot K)) (gl : mg "check_lot" = some (.ref fl)) (kl : PySem.W.keepIn K (.ref fl) = true) (bl : Binds K fdl ["lot", "many"] []) : FnOk P w K mg base CX0 6 f fd ["cloth", "stood", "ran"] (spFits K CC) := by
  refine F.ok scFits (fun vs H Q E h => ?_) (fun cdv A outer s H vs Q E hr h => ?_)
  · obtain ⟨x, ua, da, _, _, _, _, rfl, _⟩ := h
    rfl
  · obtain ⟨x, ua, da, ls, ms, us, ds, rfl, ic, thin, lm, hu, hd, oku, okd, k⟩ := h
    refine ⟨_, pss_cons (ps_expr (pe_call (E := E0) Gl (hr.mono (by decide)) rfl gl kl bl .nil pass0 (pa_cons (pv 1) (pa_cons (pe_callB (call_lenO (E := E0) R.aN R.oN (hr.mono (by decide)) R.bN pass0) (by rfl) (B "len" (by decide)) (by decide +kernel) (pa_cons (pv 0) pa_nil)) pa_nil))))
      (pss_cons (ps_set (i := 3) scFits.nd rfl (Or.inr rfl) (pe_callTy (cr_setK (K := K) (P := P) (w := w) rfl) (by rfl) (B "set" (by decide)) (by decide +kernel) (pa_cons (pe_call (E := E0) Go (hr.mono (by decide)) rfl go ko bo .nil pass0 (pa_cons (pv 0) (pa_cons (pv 2) pa_nil))) pa_nil)))
      (pss_one (ps_ret (pe_callB (cr_all rfl) (by rfl) (B "all" (by decide)) (by decide +kernel) (pa_cons (pe_lc (own := [("loop", 4)]) (g := gName 4) (tt := tYes) rfl scFits.nd (pi_list (pv 1)) (blkOk_by (N := ["cloth", "stood", "ran", "left", "loop"]) (sc := defScope sFits) (by decide +kernel)) (fun _ _ _ _ _ => pg_name (i := 4) scFits.nd rfl (Or.inl rfl)) (fun _ _ _ _ _ => pts_nil) (fun _ _ _ _ _ => pe_cmpR (inI (P := P) (w := w)) (pv 4) (pv 3) (by rfl))) pa_nil))))), ?_⟩
    have ty2 : sizeLine = 16777216 := sizeLine_eq
    have ln := thin.1
    have ic0 := ic
    obtain ⟨dx, L, G, xs, hx, hL, dl, hG⟩ := ic
    have xl : xs.length = ls.length := by rw [dps_len dl, List.length_map]
    refine ⟨_, rfl, _, rfl, x, dx, _, rfl, hx, x, dx, L, _, xs, rfl, hx, R.cc, R.n1, rfl, hL, _, rfl, by omega, by omega, ?_⟩
    refine ⟨ua, xs.length, us, rfl, hu, by rw [xl]; exact oku, by have := oku.len; omega, fun H1 s1 => ?_⟩
    refine ⟨_, rfl, _, rfl, x, da, ls, ms, ds, rfl, ic0.same s1, thin, lm, s1.seq hd, okd, fun U H2 nU s2' eU => ?_⟩
    have s2 := s1.trans s2'
    have ul := upL_len ls ms ds ls.length
    refine ⟨U, (upL ls ms ds ls.length).reverse.map fun k : Nat => (k : Int), rfl, SqL.of (by rw [← nI_ints]; exact eU), by rw [List.length_map, List.length_reverse]; omega, fun T c nT cl => ?_⟩
    have s3 := s2.trans (same_new (o := SetI P w T (fun k => decide (k ∈ (upL ls ms ds ls.length).reverse.map fun k : Nat => (k : Int))) c) nT)
    have eT0 := upd_same (H := H2) (a := T) (o := SetI P w T (fun k => decide (k ∈ (upL ls ms ds ls.length).reverse.map fun k : Nat => (k : Int))) c)
    generalize hB : upd H2 T (SetI P w T (fun k => decide (k ∈ (upL ls ms ds ls.length).reverse.map fun k : Nat => (k : Int))) c) = B0 at *
    refine ⟨_, rfl, ua, rfl, ⟨_, s3.seq hu⟩, fun J nJ => ?_⟩
    refine lc_list (K := K) (a := ua) (xs := us.map V.int) (fun j H' => Same B0 H' ∧ H' J = some (.lst (((us.take j).map fun z => decide (z ∈ (upL ls ms ds ls.length).map fun k : Nat => (k : Int))).map V.bl)))
      ⟨same_new nJ, upd_same⟩ (fun j H' hj hh => (s3.trans hh.1).seq hu) (fun j y H' hy hh => ⟨rfl, ?_⟩) (fun H' hh => ?_)
    · obtain ⟨sB, eJ⟩ := hh
      rw [List.getElem?_map] at hy
      obtain ⟨z, hz, rfl⟩ := Option.map_eq_some_iff.mp hy
      have ub := oku.len
      refine ⟨_, rfl, _, rfl, z, T, _, c, rfl, rfl, sB _ _ eT0, _, eJ, ?_, fun b o e => ?_, ?_⟩
      · simp only [List.length_map, List.length_take]
        omega
      · rw [upd_ne (ne_of_none e nJ)]
        exact sB _ _ e
      · rw [upd_same, List.take_add_one, hz, Option.toList_some, List.map_append, List.map_append]
        have rv : (z ∈ (upL ls ms ds ls.length).reverse.map fun k : Nat => (k : Int)) ↔ z ∈ (upL ls ms ds ls.length).map fun k : Nat => (k : Int) := by
          simp only [List.mem_map, List.mem_reverse]
        show some (HO.lst (_ ++ [V.bl (decide (z ∈ (upL ls ms ds ls.length).reverse.map fun k : Nat => (k : Int)))])) = _
        rw [decide_eq_decide.mpr rv]
        rfl
    · obtain ⟨sB, eJ⟩ := hh
      rw [List.length_map, List.take_length] at eJ
      refine ⟨J, _, rfl, SqL.of eJ, ?_⟩
      have e : ((us.map fun z => decide (z ∈ (upL ls ms ds ls.length).map fun k : Nat => (k : Int))).all id) = fitsD ls ms us ds := by
        unfold fitsD
        rw [List.all_map]
        rfl
      rw [e]
      exact k H' (s3.trans sB)
theorem ok_lst {f fo fl : Addr} {fd fdo fdl : FuncData} (F : Fun K "least_run" "least_run" sLst f fd) (B : Bl mg) (Go : FnOk P w K mg base CX0 6 fo fdo ["cloth", "stood", "ran"] (spFits K CC)) (go : mg "fits" = some (.ref fo)) (ko : PySem.W.keepIn K (.ref fo) = true) (bo : Binds K fdo ["cloth", "stood", "ran"] [])
    (Gl : FnOk P w K mg base CX0 6 fl fdl ["cloth", "cuts"] (spRun K CC)) (gl : mg "run" = some (.ref fl)) (kl : PySem.W.keepIn K (.ref fl) = true) (bl : Binds K fdl ["cloth", "cuts"] []) : FnOk P w K mg base CX0 7 f fd ["cloth", "stood", "ran"] (spLst K CC) := by
  refine F.ok scLst (fun vs H Q E h => ?_) (fun cdv A outer s H vs Q E hr h => ?_)
  · obtain ⟨x, ua, da, _, _, _, _, rfl, _⟩ := h
    rfl
  · obtain ⟨x, ua, da, ls, ms, us, ds, rfl, ic, thin, lm, hu, hd, oku, okd, k1, k2⟩ := h
    refine ⟨_, pss_one (ps_ret (pe_ifExp (pt_val (pe_call (E := E0) Go (hr.mono (by decide)) rfl go ko bo .nil pass0 (pa_cons (pv 0) (pa_cons (pv 1) (pa_cons (pv 2) pa_nil))))) (pe_call (E := E0) Gl (hr.mono (by decide)) rfl gl kl bl .nil pass0 (pa_cons (pv 0) (pa_cons (pv 2) pa_nil))) pe_non)), ?_⟩
    refine ⟨_, rfl, _, rfl, _, rfl, x, ua, da, ls, ms, us, ds, rfl, ic, thin, lm, hu, hd, oku, okd, fun H1 s1 => ⟨_, rfl, ?_⟩⟩
    cases e : fitsD ls ms us ds with
    | true => exact LK.ifT rfl ⟨_, rfl, _, rfl, x, da, ls, ms, ds, rfl, ic.same s1, thin, lm, s1.seq hd, okd, fun p H2 np s2 ep => k1 e p H2 (gone s1 np) (s1.trans s2) ep⟩
    | false => exact LK.ifF rfl (k2 e H1 s1)
end
end B7
/-! f(k = v, ..): a def called by keywords alone. -/
namespace MXq
open PySem PySem.Spec PyProof.Rows L2
section
variable {X : Cx} {CX : CXT} {k : Nat} {f : Addr} {fd : FuncData} {ps ks : List Str} {sp : Sp} {E : XK} {x : Str} {p pos : Pos} {kws : List Keyword} {tk : TA}
variable {g : List Value → List Value → List Value} {gV : List V → List V → List V}
theorem pe_callK0 (F : FnOk X.prog X.w X.K X.mg X.base CX k f fd ps sp) (hr : Room k X.A) (hg : Gl X x) (hm : X.mg x = some (.ref f)) (hk : PySem.W.keepIn X.K (.ref f) = true) (hb : KBinds X.K fd ps ks g gV) (hx : Passes CX X E)
    (hkw : PK X kws tk) (hall : (backToKw pos (keywordEach kws X.env)).all (·.1.isSome) = true := by rfl) (hks : (backToKw pos (keywordEach kws X.env)).filterMap (·.1) = ks := by rfl)
    (hdb : (x == ("__debug__" : Str)) = false := by decide)
    (hpl : ((backTo pos (starEach [] X.env)).any (·.1) || (backToKw pos (keywordEach kws X.env)).any (·.1.isNone)) = false := by rfl) :
    PE X (.Call (.Name x p) [] kws pos) (tCallK sp gV E tNil tk) := by
  refine ⟨fun pins s σ H Q I h => ?_⟩
  refine wpAny_Call_Name_kw (ld_glob I hg hm ?_ hdb)
  refine PySem.W.callWith_KW0 (h₀ := X.base) I.ok.mod.kin hk hall ?_ hpl
  refine thn (hkw.run pos pins s σ H _ I h) fun ws s2 ⟨zs, H2, I2, rz, q2⟩ => ⟨I2.kIn, ?_⟩
  rw [hks]
  exact run_fnk F hr hb hx I2 .nil rz q2
end
end MXq
/-! Data that str() may be asked of: no dicts, ints and texts that are not too long. -/
namespace LK
open PySem PySem.Spec PyProof.Rows L2 MXk
mutual
def neat : PyData → Bool
  | .none | .bool _ => true
  | .int i => decide (i.natAbs < 10 ^ 40)
  | .str x => decide (x.cps.size ≤ 40)
  | .list xs | .tuple xs => neatAll xs
  | .dict _ => false
def neatAll : List PyData → Bool
  | [] => true
  | x :: r => neat x && neatAll r
end
/-- neat, and not heavy -/
def Nice (d : PyData) : Prop := neat d = true ∧ d.weight ≤ 400
theorem log_of {i : Int} (h : i.natAbs < 10 ^ 40) : i.natAbs.log2 < 140 := by
  by_cases z : i.natAbs = 0
  · rw [z]
    decide
  · exact (Nat.log2_lt z).mpr (Nat.lt_of_lt_of_le h (by decide))
mutual
theorem neat_shows : ∀ d : PyData, neat d = true → d.showable = true ∧ d.hasDict = false ∧ d.intsShort 41 = true
  | .none, _ => ⟨rfl, rfl, rfl⟩
  | .bool _, _ => ⟨rfl, rfl, rfl⟩
  | .str _, _ => ⟨rfl, rfl, rfl⟩
  | .int i, h => by
    have q : i.natAbs < 10 ^ 40 := of_decide_eq_true h
    refine ⟨decide_eq_true (Nat.lt_trans (log_of q) (by decide)), rfl, decide_eq_true ?_⟩
    have e := int_text_length_le10 (k := 40) (by decide) q
    show (Str.ofString (toString i)).length ≤ 41
    rw [PySem.ofString_length]
    exact e
  | .list xs, h => by
    obtain ⟨a, b, c⟩ := neat_showsAll xs h
    exact ⟨a, b, c⟩
  | .tuple xs, h => by
    obtain ⟨a, b, c⟩ := neat_showsAll xs h
    exact ⟨a, b, c⟩
  | .dict _, h => Bool.noConfusion h
theorem neat_showsAll : ∀ xs : List PyData, neatAll xs = true → PyData.showableAll xs = true ∧ PyData.hasDictAll xs = false ∧ PyData.intsShortAll 41 xs = true
  | [], _ => ⟨rfl, rfl, rfl⟩
  | x :: r, h => by
    rw [neatAll, Bool.and_eq_true] at h
    obtain ⟨a, b, c⟩ := neat_shows x h.1
    obtain ⟨a', b', c'⟩ := neat_showsAll r h.2
    refine ⟨?_, ?_, ?_⟩
    · rw [PyData.showableAll, a, a']
      rfl
    · rw [PyData.hasDictAll, b, b']
      rfl
    · rw [PyData.intsShortAll, c, c']
      rfl
end
theorem shown_ok {d : PyData} (h : neat d = true) (lay : d.canLay0 = true) (w : d.weight ≤ 300000) : d.showable = true ∧ d.hasDict = false ∧ d.shown.length ≤ sizeLine := by
  obtain ⟨a, b, c⟩ := neat_shows d h
  refine ⟨a, b, ?_⟩
  have q := PyData.shown_le 41 (by decide) d (PyData.leavesShort_of_canLay0 41 d lay c)
  rw [sizeLine_eq]
  have q2 : (41 + 2) * d.weight ≤ 43 * 300000 := Nat.mul_le_mul_left _ w
  omega
/-- the text of a datum -/
def textD : PyData → Str
  | .str x => x
  | .none => "None"
  | .bool b => if b then "True" else "False"
  | .int i => Str.ofString (toString i)
  | d => d.shown
def rStrA (K : PySem.W.Frag) : List V → Hp → VK → Prop := fun xs H Q => ∃ (v : V) (d : PyData), xs = [v] ∧ Dp K H v d ∧ neat d = true ∧ d.canLay0 = true ∧ d.weight ≤ 300000 ∧ d.depth ≤ 20 ∧ Q (.str (textD d)) H
section
variable {X : Cx}
theorem cr_strA (hg : X.A.guards = some []) (hu : X.A.units + 64 < cLine) : CallR X (.type "str") (rStrA X.K) := by
  intro pins s σ H xs us Q I r h
  obtain ⟨v, d, rfl, hd, ne, lay, we, dp, q⟩ := h
  obtain ⟨s1, s2, s3⟩ := shown_ok ne lay we
  obtain ⟨u, e, ru⟩ := vals1 r
  subst e
  cases hd with
  | non =>
    cases (show u = Value.none from ru)
    exact PySem.P.str_of_none ⟨.str _, H, I.tok _, ⟨_, rfl⟩, q⟩
  | bl b =>
    cases (show u = Value.bool b from ru)
    exact PySem.P.str_of_bool ⟨.str _, H, I.tok _, ⟨_, rfl⟩, q⟩
  | int i => exact call_str_int pins s σ H _ _ Q I r ⟨i, rfl, of_decide_eq_true s1, q⟩
  | str x => exact SkE.call_str_str pins s σ H _ _ Q I r ⟨x, rfl, q⟩
  | lst sq al => exact cr_strD hg hu pins s σ H _ _ Q I r ⟨_, _, rfl, .lst sq al, s1, s2, dp, s3, q⟩
  | tup sq al => exact cr_strD hg hu pins s σ H _ _ Q I r ⟨_, _, rfl, .tup sq al, s1, s2, dp, s3, q⟩
end
end LK
namespace LK
open PySem
theorem nice_int {i : Int} (h : i.natAbs < 10 ^ 40) : Nice (.int i) := by
  refine ⟨decide_eq_true h, ?_⟩
  unfold PyData.weight
  split
  · exact Nat.zero_le _
  · have := log_of h
    omega
end LK
/-! What str() gives is a text that can be laid. -/
namespace LK
open PySem PySem.Spec PyProof.Rows L2
def OkT (x : Str) : Prop := ∀ c ∈ x.cps.toList, c < 0x110000
theorem okT_iff {x : Str} : PyData.strOk x = true ↔ OkT x := by
  unfold PyData.strOk OkT
  rw [Array.all_eq_true_iff_forall_mem]
  constructor
  · intro h c hc
    have := h c (Array.mem_toList_iff.mp hc)
    simpa using this
  · intro h c hc
    have := h c (Array.mem_toList_iff.mpr hc)
    simpa using this
theorem OkT.app {x y : Str} (a : OkT x) (b : OkT y) : OkT (x ++ y) := by
  intro c hc
  have e : (x ++ y).cps.toList = x.cps.toList ++ y.cps.toList := Array.toList_append
  rw [e, List.mem_append] at hc
  exact hc.elim (a c) (b c)
theorem char_lt (c : Char) : c.toNat < 0x110000 := by
  rcases c.valid with h | h
  · have : c.toNat < 0xD800 := h
    omega
  · exact h.2
theorem OkT.lit (s : String) : OkT (Str.ofString s) := by
  rw [Str.ofString_eq_toList]
  intro c hc
  obtain ⟨d, _, rfl⟩ := List.mem_map.mp (show c ∈ s.toList.map Char.toNat from hc)
  exact char_lt d
theorem ok_char {q c : Nat} (h : c < 0x110000) : ∀ e ∈ Builtin.Str.reprChar q c, e < 0x110000 := by
  have hex : ∀ n : Nat, ∀ e ∈ (let d := (Nat.toDigits 16 c).map Char.toNat; List.replicate (n - d.length) 48 ++ d), e < 0x110000 := by
    intro n e he
    dsimp only at he
    rcases List.mem_append.mp he with z | z
    · rw [(List.mem_replicate.mp z).2]
      decide
    · obtain ⟨d, _, rfl⟩ := List.mem_map.mp z
      exact char_lt d
  have two : ∀ a b : Nat, a < 0x110000 → b < 0x110000 → ∀ e ∈ [a, b], e < 0x110000 := by
    intro a b ha hb e he
    rcases List.mem_cons.mp he with rfl | he
    · exact ha
    · rw [List.mem_singleton.mp he]
      exact hb
  intro e he
  unfold Builtin.Str.reprChar at he
  dsimp only at he
  split at he
  · exact two _ _ (by decide) h e he
  split at he
  · exact two _ _ (by decide) (by decide) e he
  split at he
  · exact two _ _ (by decide) (by decide) e he
  split at he
  · exact two _ _ (by decide) (by decide) e he
  split at he
  · rw [List.mem_singleton.mp he]
    exact h
  split at he
  · rcases List.mem_append.mp he with z | z
    · exact two _ _ (by decide) (by decide) e z
    · exact hex 2 e z
  split at he
  · rcases List.mem_append.mp he with z | z
    · exact two _ _ (by decide) (by decide) e z
    · exact hex 4 e z
  · rcases List.mem_append.mp he with z | z
    · exact two _ _ (by decide) (by decide) e z
    · exact hex 8 e z
theorem ok_repr {x : Str} (h : OkT x) : OkT (reprText x) := by
  have q : reprQuote x < 0x110000 := by
    unfold reprQuote
    split <;> decide
  have fold : ∀ (l : List Nat) (acc : Array Nat), (∀ c ∈ l, c < 0x110000) → (∀ c ∈ acc.toList, c < 0x110000) → ∀ c ∈ (l.foldl (fun out c => out ++ (Builtin.Str.reprChar (reprQuote x) c).toArray) acc).toList, c < 0x110000 := by
    intro l
    induction l with
    | nil => exact fun acc _ ha => ha
    | cons d r ih =>
      intro acc hl ha
      refine ih _ (fun c hc => hl c (List.mem_cons_of_mem _ hc)) fun c hc => ?_
      rw [Array.toList_append, List.mem_append] at hc
      rcases hc with z | z
      · exact ha c z
      · exact ok_char (hl d List.mem_cons_self) c z
  intro c hc
  have e : (reprText x).cps.toList = (x.cps.toList.foldl (fun out c => out ++ (Builtin.Str.reprChar (reprQuote x) c).toArray) #[reprQuote x]).toList ++ [reprQuote x] := by
    unfold reprText
    rw [Array.toList_push, ← Array.foldl_toList]
  rw [e, List.mem_append] at hc
  rcases hc with z | z
  · exact fold _ _ h (fun c hc => by rw [List.mem_singleton.mp (show c ∈ [reprQuote x] from hc)]; exact q) c z
  · rw [List.mem_singleton.mp z]
    exact q
theorem ok_from : ∀ (ts : List Str) (k : Nat) (acc : Str), OkT acc → (∀ t ∈ ts, OkT t) → OkT (textFrom k acc ts)
  | [], _, _, ha, _ => ha
  | t :: r, k, acc, ha, h => by
    unfold textFrom
    exact ok_from r (k + 1) _ ((ha.app (OkT.lit _)).app (h t List.mem_cons_self)) fun u hu => h u (List.mem_cons_of_mem _ hu)
theorem ok_join : ∀ ts : List Str, (∀ t ∈ ts, OkT t) → OkT (Str.join ", " ts)
  | [], _ => fun c hc => absurd hc (by simp [Str.join, Str.empty])
  | [x], h => h x List.mem_cons_self
  | x :: y :: r, h => by
    unfold Str.join
    exact ((h x List.mem_cons_self).app (OkT.lit _)).app (ok_join (y :: r) fun u hu => h u (List.mem_cons_of_mem _ hu))
mutual
theorem ok_shown : ∀ d : PyData, d.canLay0 = true → OkT d.shown
  | .none, _ => OkT.lit _
  | .bool b, _ => by
    unfold PyData.shown
    split <;> exact OkT.lit _
  | .int i, _ => OkT.lit _
  | .str x, h => ok_repr (okT_iff.mp h)
  | .list xs, h => by
    show OkT (textFrom 0 "[" (PyData.shownAll xs) ++ _)
    exact (ok_from _ _ _ (OkT.lit _) (ok_shownAll xs h)).app (OkT.lit _)
  | .tuple xs, h => by
    show OkT (_ ++ Str.join ", " (PyData.shownAll xs) ++ _)
    exact ((OkT.lit _).app (ok_join _ (ok_shownAll xs h))).app (OkT.lit _)
  | .dict _, h => Bool.noConfusion h
theorem ok_shownAll : ∀ xs : List PyData, PyData.canLayAll0 xs = true → ∀ t ∈ PyData.shownAll xs, OkT t
  | [], _, t, ht => absurd ht List.not_mem_nil
  | x :: r, h, t, ht => by
    rw [PyData.canLayAll0, Bool.and_eq_true] at h
    rcases List.mem_cons.mp ht with rfl | ht
    · exact ok_shown x h.1
    · exact ok_shownAll r h.2 t ht
end
theorem ok_text {d : PyData} (h : d.canLay0 = true) : PyData.strOk (textD d) = true := by
  refine okT_iff.mpr ?_
  cases d with
  | str x => exact okT_iff.mp h
  | none => exact OkT.lit _
  | bool b =>
    unfold textD
    dsimp only
    split <;> exact OkT.lit _
  | int i => exact OkT.lit _
  | list xs => exact ok_shown _ h
  | tuple xs => exact ok_shown _ h
  | dict k => exact Bool.noConfusion h
end LK
/-! law: what is handed in, and what becomes of it. -/
namespace B7
open PySem PySem.Spec PyProof.Rows L2 LK
/-- data that all may be asked of -/
structure GoodD (d : PyData) : Prop where
  tm : tame d = true
  lay : d.canLay0 = true
  dp : d.depth ≤ 5
  ne : neat d = true
  wt : d.weight ≤ 60000
/-- n items at most -/
structure Items (n : Nat) (ds : List PyData) : Prop where
  ln : ds.length ≤ n
  tm : tameAll ds = true
  lay : PyData.canLayAll0 ds = true
  dp : PyData.depthAll ds ≤ 2
  ne : neatAll ds = true
  wt : ∀ d ∈ ds, d.weight ≤ 400
theorem wt_all : ∀ {ds : List PyData}, (∀ d ∈ ds, d.weight ≤ 400) → PyData.weightAll ds ≤ ds.length * 401
  | [], _ => Nat.le_refl _
  | d :: r, h => by
    have h1 := h d List.mem_cons_self
    have h2 := wt_all (ds := r) fun e he => h e (List.mem_cons_of_mem _ he)
    simp only [PyData.weightAll, List.length_cons]
    omega
theorem Items.good {n : Nat} {ds : List PyData} (h : Items n ds) (hn : n ≤ 100) : GoodD (.list ds) ∧ GoodD (.tuple ds) := by
  have ln := h.ln
  have w : PyData.weightAll ds ≤ 60000 := Nat.le_trans (wt_all h.wt) (Nat.le_trans (Nat.mul_le_mul_right _ (Nat.le_trans ln hn)) (by decide))
  have t : (decide (ds.length ≤ 1000) && tameAll ds) = true := by rw [h.tm, Bool.and_true]; exact decide_eq_true (by omega)
  have dp := h.dp
  refine ⟨⟨t, h.lay, ?_, h.ne, w⟩, ⟨t, h.lay, ?_, h.ne, w⟩⟩ <;> (simp only [PyData.depth]; omega)
theorem tameAll_app : ∀ {a b : List PyData}, tameAll a = true → tameAll b = true → tameAll (a ++ b) = true
  | [], _, _, h => h
  | x :: r, b, h, k => by
    rw [tameAll, Bool.and_eq_true] at h
    rw [List.cons_append, tameAll, h.1, tameAll_app h.2 k]
    rfl
theorem layAll_app : ∀ {a b : List PyData}, PyData.canLayAll0 a = true → PyData.canLayAll0 b = true → PyData.canLayAll0 (a ++ b) = true
  | [], _, _, h => h
  | x :: r, b, h, k => by
    rw [PyData.canLayAll0, Bool.and_eq_true] at h
    rw [List.cons_append, PyData.canLayAll0, h.1, layAll_app h.2 k]
    rfl
theorem neatAll_app : ∀ {a b : List PyData}, neatAll a = true → neatAll b = true → neatAll (a ++ b) = true
  | [], _, _, h => h
  | x :: r, b, h, k => by
    rw [neatAll, Bool.and_eq_true] at h
    rw [List.cons_append, neatAll, h.1, neatAll_app h.2 k]
    rfl
theorem dpAll_app : ∀ {n : Nat} {a b : List PyData}, PyData.depthAll a ≤ n → PyData.depthAll b ≤ n → PyData.depthAll (a ++ b) ≤ n
  | _, [], _, _, h => h
  | n, x :: r, b, h, k => by
    simp only [PyData.depthAll] at h
    simp only [List.cons_append, PyData.depthAll]
    have := dpAll_app (n := n) (a := r) (b := b) (by omega) k
    omega
theorem tameAll_iff {ds : List PyData} : tameAll ds = true ↔ ∀ d ∈ ds, tame d = true := by
  induction ds with
  | nil => exact ⟨fun _ d hd => absurd hd List.not_mem_nil, fun _ => rfl⟩
  | cons x r ih => rw [tameAll, Bool.and_eq_true, ih]; simp
theorem layAll_iff {ds : List PyData} : PyData.canLayAll0 ds = true ↔ ∀ d ∈ ds, d.canLay0 = true := by
  induction ds with
  | nil => exact ⟨fun _ d hd => absurd hd List.not_mem_nil, fun _ => rfl⟩
  | cons x r ih => rw [PyData.canLayAll0, Bool.and_eq_true, ih]; simp
theorem neatAll_iff {ds : List PyData} : neatAll ds = true ↔ ∀ d ∈ ds, neat d = true := by
  induction ds with
  | nil => exact ⟨fun _ d hd => absurd hd List.not_mem_nil, fun _ => rfl⟩
  | cons x r ih => rw [neatAll, Bool.and_eq_true, ih]; simp
theorem dpAll_iff {n : Nat} {ds : List PyData} : PyData.depthAll ds ≤ n ↔ ∀ d ∈ ds, d.depth ≤ n := by
  induction ds with
  | nil => exact ⟨fun _ d hd => absurd hd List.not_mem_nil, fun _ => Nat.zero_le _⟩
  | cons x r ih =>
    simp only [PyData.depthAll, List.mem_cons, forall_eq_or_imp]
    rw [← ih]
    omega
theorem Items.iff {n : Nat} {ds : List PyData} : Items n ds ↔ ds.length ≤ n ∧ ∀ d ∈ ds, tame d = true ∧ d.canLay0 = true ∧ d.depth ≤ 2 ∧ Nice d := by
  constructor
  · intro h
    exact ⟨h.ln, fun d hd => ⟨tameAll_iff.mp h.tm d hd, layAll_iff.mp h.lay d hd, dpAll_iff.mp h.dp d hd, neatAll_iff.mp h.ne d hd, h.wt d hd⟩⟩
  · rintro ⟨h1, h2⟩
    exact ⟨h1, tameAll_iff.mpr fun d hd => (h2 d hd).1, layAll_iff.mpr fun d hd => (h2 d hd).2.1, dpAll_iff.mpr fun d hd => (h2 d hd).2.2.1, neatAll_iff.mpr fun d hd => (h2 d hd).2.2.2.1, fun d hd => (h2 d hd).2.2.2.2⟩
/-- some of the items, one more in between -/
theorem Items.bend {n k j : Nat} {ds : List PyData} {d : PyData} (h : Items n ds) (kj : k ≤ j) (t : tame d = true) (l : d.canLay0 = true) (p : d.depth ≤ 2) (c : Nice d) : Items (n + 1) (ds.take k ++ [d] ++ ds.drop j) := by
  obtain ⟨h1, h2⟩ := Items.iff.mp h
  refine Items.iff.mpr ⟨?_, fun e he => ?_⟩
  · simp only [List.length_append, List.length_take, List.length_drop, List.length_cons, List.length_nil]
    omega
  · rw [List.mem_append, List.mem_append] at he
    rcases he with (he | he) | he
    · exact h2 e (List.mem_of_mem_take he)
    · rw [List.mem_singleton.mp he]
      exact ⟨t, l, p, c⟩
    · exact h2 e (List.mem_of_mem_drop he)
theorem due_none {d e : PyData} (h : dueD d e = none) : loopsFault d = none := by
  unfold dueD at h
  split at h
  · cases h
  · assumption
/-- a right list of loops -/
theorem valid_lps {ds : List PyData} (h : loopsFault (.list ds) = none) : ∃ ls : List Lp, ds = ls.map lpD := by
  have bad : ∀ k < ds.length, loopBad ds k = false := by
    unfold loopsFault at h
    have h' : (List.range ds.length).find? (loopBad ds) = none := by
      cases q : (List.range ds.length).find? (loopBad ds) with
      | none => rfl
      | some k =>
        dsimp only at h
        rw [q] at h
        cases h
    intro k hk
    simpa using List.find?_eq_none.mp h' k (List.mem_range.mpr hk)
  have each : ∀ d ∈ ds, ∃ l : Lp, d = lpD l := by
    intro d hd
    obtain ⟨k, hk, rfl⟩ := List.getElem_of_mem hd
    have q := bad k hk
    unfold loopBad at q
    rw [List.getElem?_eq_getElem hk] at q
    have q2 : isLoopD k ds[k] = true := by simpa using q
    generalize ds[k] = d at q2
    unfold isLoopD at q2
    split at q2
    · rename_i a b
      rw [Bool.and_eq_true] at q2
      obtain ⟨q3, q4⟩ := q2
      cases a with
      | str z =>
        cases b with
        | tuple es =>
          unfold isParD at q4
          rw [Bool.and_eq_true] at q4
          have nums : ∀ es : List PyData, es.all (isNumD k) = true → ∃ ns : List Int, es = ns.map PyData.int := by
            intro es
            induction es with
            | nil => exact fun _ => ⟨[], rfl⟩
            | cons e r ih =>
              intro h
              rw [List.all_cons, Bool.and_eq_true] at h
              obtain ⟨ns, rfl⟩ := ih h.2
              cases e with
              | int i => exact ⟨i :: ns, rfl⟩
              | _ => exact Bool.noConfusion h.1
          obtain ⟨ns, rfl⟩ := nums es q4.1
          exact ⟨(z, ns), rfl⟩
        | _ => exact Bool.noConfusion q4
      | _ => exact Bool.noConfusion q3
    · cases q2
  clear h bad
  induction ds with
  | nil => exact ⟨[], rfl⟩
  | cons d r ih =>
    obtain ⟨l, rfl⟩ := each d List.mem_cons_self
    obtain ⟨ls, rfl⟩ := ih fun e he => each e (List.mem_cons_of_mem _ he)
    exact ⟨l :: ls, rfl⟩
theorem lps_short {ls : List Lp} (h : tameAll (ls.map lpD) = true) : ∀ l ∈ ls, l.2.length ≤ 1000 := fun l hl => by
  have q := tameAll_iff.mp h (lpD l) (List.mem_map.mpr ⟨l, hl, rfl⟩)
  unfold lpD tame at q
  rw [Bool.and_eq_true] at q
  have q2 := tameAll_iff.mp q.2 (.tuple (l.2.map PyData.int)) (by simp)
  unfold tame at q2
  rw [Bool.and_eq_true, List.length_map] at q2
  exact of_decide_eq_true q2.1
/-- no more than fit -/
theorem okfs_len {n : Nat} {fs : List Int} (h : OkFs n fs) : fs.length ≤ n := by
  have nd : (fs.map Int.toNat).Nodup := by
    refine List.Pairwise.map _ ?_ (List.Pairwise.and_mem.mp h.1)
    rintro a b ⟨ha, hb, ne⟩ e
    have := h.2 a ha
    have := h.2 b hb
    exact ne (by omega)
  have sub : (fs.map Int.toNat) ⊆ List.range n := fun x hx => by
    obtain ⟨a, ha, rfl⟩ := List.mem_map.mp hx
    have := h.2 a ha
    exact List.mem_range.mpr (by omega)
  have := sub_len _ _ nd sub
  rwa [List.length_map, List.length_range] at this
theorem okfs_items {n : Nat} {fs : List Int} (h : OkFs n fs) (hn : n ≤ 1000) : Items n (fs.map PyData.int) := by
  refine Items.iff.mpr ⟨by rw [List.length_map]; exact okfs_len h, fun d hd => ?_⟩
  obtain ⟨i, hi, rfl⟩ := List.mem_map.mp hd
  have := h.2 i hi
  exact ⟨rfl, rfl, Nat.zero_le _, nice_int (Nat.lt_of_le_of_lt (show i.natAbs ≤ 1000 by omega) (by decide))⟩
theorem lps_items {ys : List Str} {ls : List Lp} {n : Nat} (h : OkLs ys ls) (hy : ∀ y ∈ ys, Yn y) (hn : ls.length ≤ n) (n1 : n ≤ 1000) : Items n (ls.map lpD) := by
  refine Items.iff.mpr ⟨by rw [List.length_map]; exact hn, fun d hd => ?_⟩
  obtain ⟨l, hl, rfl⟩ := List.mem_map.mp hd
  obtain ⟨k, hk, rfl⟩ := List.getElem_of_mem hl
  obtain ⟨h1, h2, h3, h4⟩ := h k _ (List.getElem?_eq_getElem hk)
  obtain ⟨y1, y2, y3⟩ := hy _ h1
  have small : ∀ p ∈ (ls[k]).2, p.natAbs ≤ 1000 := fun p hp => by
    have := h4 p hp
    omega
  have nums : ∀ ns : List Int, (∀ p ∈ ns, p.natAbs ≤ 1000) → tameAll (ns.map PyData.int) = true ∧ neatAll (ns.map PyData.int) = true ∧ PyData.weightAll (ns.map PyData.int) ≤ ns.length * 20 := by
    intro ns
    induction ns with
    | nil => exact fun _ => ⟨rfl, rfl, Nat.le_refl _⟩
    | cons p r ih =>
      intro h
      obtain ⟨a, b, c⟩ := ih fun q hq => h q (List.mem_cons_of_mem _ hq)
      have hp := h p List.mem_cons_self
      have wp : (PyData.int p).weight ≤ 11 := by
        unfold PyData.weight
        split
        · exact Nat.zero_le _
        · rename_i nz
          have : p.natAbs.log2 < 10 := (Nat.log2_lt (by simpa using nz)).mpr (by omega)
          omega
      refine ⟨by rw [List.map_cons, tameAll, a]; rfl, ?_, ?_⟩
      · rw [List.map_cons, neatAll, b, Bool.and_true]
        exact decide_eq_true (Nat.lt_of_le_of_lt hp (by decide))
      · simp only [List.map_cons, PyData.weightAll, List.length_cons]
        omega
  obtain ⟨a, b, c⟩ := nums _ small
  obtain ⟨d1, d2⟩ := lay_ints (ls[k]).2
  have sz : (ls[k]).1.cps.size ≤ 8 := y2
  refine ⟨?_, ?_, ?_, ?_, ?_⟩
  · simp only [lpD, tame, tameAll, a, List.length_cons, List.length_nil, List.length_map, Bool.and_true, Bool.and_eq_true, decide_eq_true_eq]
    exact ⟨by omega, by omega⟩
  · simp only [lpD, PyData.canLay0, PyData.canLayAll0, d1, Bool.and_true]
    refine okT_iff.mpr fun c hc => ?_
    have := y3 c hc
    omega
  · simp only [lpD, PyData.depth, PyData.depthAll, d2]
    omega
  · simp only [lpD, neat, neatAll, b, Bool.and_true]
    exact decide_eq_true (by omega)
  · simp only [lpD, PyData.weight, PyData.weightAll]
    omega
end B7
/-! What is drawn is a right cloth. -/
namespace B7
open PySem PySem.Spec PyProof.Rows L2 LK MXo MXi MXp MXq
theorem rise_ints {ns : List Int} (h : ns.Pairwise (· < ·)) : rise (ns.map PyData.int) = true := by
  unfold rise
  rw [List.all_eq_true]
  intro i hi
  rw [List.length_map] at hi
  have hi' := List.mem_range.mp hi
  have a : (ns.map PyData.int)[i]? = some (.int ns[i]) := by rw [List.getElem?_map, List.getElem?_eq_getElem (by omega)]; rfl
  have b : (ns.map PyData.int)[i + 1]? = some (.int ns[i + 1]) := by rw [List.getElem?_map, List.getElem?_eq_getElem (by omega)]; rfl
  have lt := List.pairwise_iff_getElem.mp h i (i + 1) (by omega) (by omega) (by omega)
  unfold ltAt
  rw [a, b]
  exact decide_eq_true lt
theorem loop_ok {ys : List Str} {ls : List Lp} (h : OkLs ys ls) (hy : ∀ y ∈ ys, Yn y) {k : Nat} {l : Lp} (e : ls[k]? = some l) : isLoopD (k : Int) (lpD l) = true := by
  obtain ⟨h1, h2, h3, h4⟩ := h k l e
  obtain ⟨y1, y2, y3⟩ := hy _ h1
  show (isThrD (.str l.1) && isParD (k : Int) (.tuple (l.2.map PyData.int))) = true
  rw [Bool.and_eq_true]
  refine ⟨?_, ?_⟩
  · show (decide (1 ≤ l.1.length ∧ l.1.length ≤ 8) && l.1.cps.toList.all fun c => decide (97 ≤ c ∧ c ≤ 122)) = true
    rw [decide_eq_true ⟨y1, y2⟩, Bool.true_and, List.all_eq_true]
    exact fun c hc => decide_eq_true (y3 c hc)
  · show ((l.2.map PyData.int).all (isNumD (k : Int)) && rise (l.2.map PyData.int)) = true
    rw [rise_ints h2, Bool.and_true, List.all_map, List.all_eq_true]
    exact fun p hp => decide_eq_true (h4 p hp)
theorem due_ok {ys : List Str} {ls : List Lp} {fs : List Int} (h : OkLs ys ls) (hy : ∀ y ∈ ys, Yn y) (hf : OkFs ls.length fs) : dueD (.list (ls.map lpD)) (.list (fs.map PyData.int)) = none := by
  have e : loopsFault (.list (ls.map lpD)) = none := by
    show ((List.range (ls.map lpD).length).find? (loopBad (ls.map lpD))).map (fun k : Nat => (k : Int)) = none
    rw [find_all fun k hk => ?_]
    · rfl
    rw [List.length_map] at hk
    have ek : (ls.map lpD)[k]? = some (lpD ls[k]) := by rw [List.getElem?_map, List.getElem?_eq_getElem hk]; rfl
    rw [loopBad_at ek, loop_ok h hy (List.getElem?_eq_getElem hk)]
    rfl
  unfold dueD
  rw [e]
  show (lotFault ((ls.map lpD).length : Int) (.list (fs.map PyData.int))).map (fun i => (("fast" : Str), i)) = none
  rw [List.length_map, lot_ok hf]
  rfl
end B7
/-! law. -/
namespace B7
open PySem PySem.Spec PyProof.Rows L2 LK MXo MXi MXp MXq MXg
/-- the class, its __init__ -/
structure Cl2 (P : Program) (w : World) (K : PySem.W.Frag) (mg : Str → Option Value) (base : Heap) (CC CF CL : Addr) where
  (fC : Addr)
  (dC : FuncData)
  cc : Cls K CC
  n1 : NoAttr K CC "_loops"
  n2 : NoAttr K CC "_fast"
  mC : Mk K CC fC
  oC : FnOk P w K mg base (L2N.CX P w) 6 fC dC ["self", "loops", "fast"] (spClo K CC CF CL)
  gC : mg "Cloth" = some (.ref CC)
  bC : Binds K dC ["self", "loops", "fast"] []
theorem sqT_but {K : PySem.W.Frag} {H H' : Hp} {x a C dx : Addr} {fs : List (Str × V)} {xs : List V} (hx : H x = some (.ins C dx fs)) (s : But x H H') (h : SqT K H a xs) : SqT K H' a xs := by
  rcases h with (h | ⟨o, h⟩) | h
  · exact .inl (.inl (s _ _ (ne_of h hx (by intro q; cases q)) h))
  · exact .inl (.inr ⟨o, s _ _ (ne_of h hx (by intro q; cases q)) h⟩)
  · exact .inr h
theorem lps_but {K : PySem.W.Frag} {H H' : Hp} {x C dx : Addr} {fs : List (Str × V)} (hx : H x = some (.ins C dx fs)) (s : But x H H') : ∀ {xs : List V} {ls : List Lp}, DpAll K H xs (ls.map lpD) → DpAll K H' xs (ls.map lpD)
  | _, [], .nil => .nil
  | _, _ :: _, .cons h r => by
    refine .cons ?_ (lps_but hx s r)
    cases h with
    | tup q a =>
      cases a with
      | cons d1 a =>
        cases d1
        cases a with
        | cons d2 dn =>
          cases dn
          cases d2 with
          | tup s2 a2 => exact .tup (sqT_but hx s q) (.cons (.str _) (.cons (.tup (sqT_but hx s s2) (dp_tk_ints a2)) .nil))
/-- a cloth of right loops is made -/
theorem clo_any {K : PySem.W.Frag} {CC CF CL : Addr} {H : Hp} {x dx l g : Addr} {Q : VK} {E : XK} {ys : List Str} {ls : List Lp} {fs : List Int} {xs : List V} (cc : Cls K CC) (n1 : NoAttr K CC "_loops") (n2 : NoAttr K CC "_fast") (hl : H l = some (.lst xs)) (dl : DpAll K H xs (ls.map lpD)) (hg : H g = some (.lst (fs.map V.int))) (ok : OkLs ys ls) (hy : ∀ y ∈ ys, Yn y) (hf : OkFs ls.length fs) (ln : ls.length ≤ 100) (nx : H x = none) (ndx : H dx = none)
    (k : ∀ (H' : Hp) (ms : List Int) (L G : Addr) (xs' : List V), Same H H' → H L = none → H G = none → H' x = some (.ins CC dx [("_loops", .ref L), ("_fast", .ref G)]) → H' L = some (.lst xs') → DpAll K H' xs' (ls.map lpD) → H' G = some (.lst (ms.map V.int)) → ms.Perm fs → Q .non H') : spClo K CC CF CL [.ref x, .ref l, .ref g] (L2.upd (L2.upd H dx (.own x)) x (.ins CC dx [])) Q E := by
  have s0 : Same H (L2.upd (L2.upd H dx (.own x)) x (.ins CC dx [])) := fun b o e => by
    rw [upd_ne (ne_of_none e nx), upd_ne (ne_of_none e ndx)]
    exact e
  have due := due_ok ok hy hf
  have it := lps_items ok hy ln (by decide)
  have gd := (it.good (by decide)).1
  have tf : tame (.list (fs.map PyData.int)) = true := by
    rw [tame, tame_ints, Bool.and_true, List.length_map]
    have := hf.len
    exact decide_eq_true (by omega)
  refine ⟨x, dx, .ref l, .ref g, .list (ls.map lpD), .list (fs.map PyData.int), rfl, upd_same, cc, n1, n2, .lst (SqL.of (s0 _ _ hl)) (dps_same s0 dl), .lst (SqL.of (s0 _ _ hg)) (dp_ints_of _), gd.tm, gd.lay, tf, fun i q => ?_, fun i q => ?_, fun ds ns ms L G H' xs' q ed ee pm pw nL nG LG hx hL hxs hG bx => ?_⟩
  · rw [due] at q
    cases q
  · rw [due] at q
    cases q
  · cases ed
    have e : ns = fs := by
      have e1 : fs.map PyData.int = ns.map PyData.int := by injection ee
      have e2 := congrArg (List.map fun d => match d with | PyData.int i => i | _ => 0) e1
      simp only [List.map_map, Function.comp_def, List.map_id'] at e2
      exact e2.symm
    subst e
    have back : ∀ {p : Addr}, L2.upd (L2.upd H dx (.own x)) x (.ins CC dx []) p = none → H p = none := fun {p} n => gone s0 n
    exact k H' ms L G xs' (fun b o e => bx b o (ne_of_none e nx) (s0 b o e)) (back nL) (back nG) hx hL (lps_but upd_same bx hxs) hG pm
def spLaw (K : PySem.W.Frag) : Sp := fun vs H Q _ => ∃ (a : Addr) (ns : List Int), vs = [.ref a] ∧ SqL K H a (ns.map V.int) ∧ ns.length ≤ 63 ∧ ∀ H', Q (.bl true) H'
end B7
/-! set(xs) of a list of ints, in the form that sorted(set) wants. -/
namespace MXr
open PySem PySem.Spec PyProof.Rows L2
/-- the empty set as it is made -/
abbrev emp (w : World) : Obj := { cls := .type "set", dict := none, data := .set #[] 0 (.fresh 0 0 (!w.params.followText "set-order")) }
theorem sub_many : ∀ {xs ys : List Int}, xs.Nodup → (∀ x ∈ xs, x ∈ ys) → xs.length ≤ ys.length
  | [], _, _, _ => Nat.zero_le _
  | x :: xs, ys, nd, h => by
    have nd' := List.nodup_cons.mp nd
    have mx := h x List.mem_cons_self
    have r := sub_many (xs := xs) (ys := ys.erase x) nd'.2 fun z hz => (List.mem_erase_of_ne (by rintro rfl; exact nd'.1 hz)).mpr (h z (List.mem_cons_of_mem _ hz))
    have l := List.length_erase_of_mem mx
    have p := List.length_pos_of_mem mx
    rw [List.length_cons]
    omega
/-- how many members there are -/
theorem setR_many {w : World} {h : Heap} {a : Addr} {S : Int → Bool} {n : Nat} (R : SetR w h a S n) {ys : List Int} (k : ∀ z, S z = true → z ∈ ys) : n ≤ ys.length := by
  obtain ⟨_, es, _, _, _, _, _, _, nd, m, _, _, rfl, _⟩ := R
  have := sub_many nd fun z hz => k z ((m z).mpr hz)
  rwa [List.length_map, Array.length_toList] at this
section
variable {P : Program} {w : World} {A : Around} {E : Value → Shared → Prop} {s : Shared}
set_option maxRecDepth 100000 in
theorem call_setL {l : Addr} {its : Array Value} (ns : List Int) {Q : Value → Shared → Prop} (hh : A.handled = none) (hl : s.heap.IsList l its) (hi : IntsAre its.toList ns) (room : ns.length + 1 < scanBound)
    (k : ∀ (h' : Heap) (tk c : Nat), SetR w h' s.heap.objs.size (fun j => decide (j ∈ ns)) c → (∀ b o, s.heap.get? b = some o → h'.get? b = some o) → Q (.ref s.heap.objs.size) { s with heap := h', toks := tk }) :
    wpAny (model P w) A (call (.type "set") [.ref l]) Q E s := by
  have many : its.size = ns.length := by have q := IntsAre.length hi; rwa [Array.length_toList] at q
  obtain ⟨c, tl, hmro⟩ := F.called_set.mro
  have m1 := F.called_set.made; have m2 := F.called_set.sub
  refine wpAny_call (codeAny_of_tree (show wpAny _ _ (callAny (.type "set") _) _ _ _ from ?_))
  refine wpAny_pure ⟨Code.quiet_builtin _ (by decide +kernel), codeAny_builtin F.entry_type_call (show _ from ?_)⟩
  rw [Around.under_plain (weight_type_call_type "set" [Value.ref l] []) rfl]
  have m3 := F.called_set.notType; have m4 := F.called_set.canCreate; have m5 := F.typeCall_set_1 (Value.ref l)
  repeat (any_goals (first | assumption | wp_step))
  refine codeAny_mono (code_set_led1 (.ref l) (E := E) (Q₁ := fun v t => v = .ref s.heap.objs.size ∧ t = { s with heap := s.heap.push (emp w) }) ⟨rfl, rfl⟩) fun r t hr => ?_
  match r, hr with
  | .error e, hr => exact hr
  | .ok (.ret v), hr =>
    obtain ⟨rfl, rfl⟩ := hr
    have at1 : (s.heap.push (emp w)).get? s.heap.objs.size = some (emp w) := Heap.get?_push_size _ rfl
    have ty1 : Shared.TypeIs { s with heap := s.heap.push (emp w) } (.ref s.heap.objs.size) "set" := ⟨_, at1, rfl⟩
    have m6 := F.called_set.init.lookup; have m7 := F.called_set.init.bind (.ref s.heap.objs.size)
    repeat (any_goals (first | assumption | wp_step))
    refine codeAny_mono (codeAny_call_builtin (R := wants (fun v t => v = .none ∧ ∃ h' tk c, t = { s with heap := h', toks := tk } ∧ SetR w h' s.heap.objs.size (fun j => decide (j ∈ ns)) c ∧ (∀ b o, s.heap.get? b = some o → h'.get? b = some o)) E) F.called_set.init.plain F.entry_set_init (check_set_init_1 ty1 ?_)) fun r2 t2 hr2 => ?_
    · obtain ⟨⟨ocls, odict, odata, oslots⟩, hol, hc, nl, hd⟩ := hl
      dsimp only at hc hd; subst hc hd
      have at2 : (s.heap.push (emp w)).get? l = some { cls := .type "list", dict := odict, data := .seq its nl, slots := oslots } := Heap.get?_push_of_some _ hol
      have m8 := F.sub_list_set; have m9 := F.sub_list_frozenset
      have ne1 : (Value.type "list" == Value.type "dict") = false := by decide
      have lst : (s.heap.push (emp w)).IsList l its := ⟨_, at2, rfl, nl, rfl⟩
      unfold Builtin.«set.__init__» noKeywords Builtin.Frozenset.updateFrom
      generalize gPI : pyIter = PI; wp_walk; subst gPI
      refine wpAny_pyIter_list lst (wpAny_bind (wpAny_runValue ?_))
      have lt := Heap.lt_size hol
      have hh3 : A.in1.in1.in1.handled = none := by simp [hh]
      have sz : (s.heap.push (emp w)).objs.size = s.heap.objs.size + 1 := Heap.size_push ..
      have neI : l ≠ (s.heap.push (emp w)).objs.size := by rw [sz]; exact Nat.ne_of_lt (Nat.lt_succ_of_lt lt)
      have off : s.heap.objs.size ∉ [(s.heap.push (emp w)).objs.size, l] := by
        rw [sz]; simp only [List.mem_cons, List.not_mem_nil, or_false, not_or]; exact ⟨Nat.ne_of_lt (Nat.lt_succ_self _), Nat.ne_of_gt lt⟩
      refine set_update_ints ((Walks.list hh3 _ l neI its).toS) s.heap.objs.size off ns many room (fun i v hv => ?_) (its.size - 0) 0 _ (by omega) (Nat.zero_le _) ⟨⟨_, Heap.get?_push_size _ rfl, rfl, rfl⟩, lst.push _⟩ ⟨0, Nat.le_refl 0, setR_new_at (Heap.get?_push_of_some _ at1)⟩ (fun t c hm _ hS => ?_)
      · have hb : i < ns.length := by rw [← many]; exact (Array.getElem?_eq_some_iff.mp hv).1
        obtain ⟨u, e⟩ := PyProof.Rows.IntsAre.int_at hi i v (by rwa [Array.getElem?_toList])
        exact ⟨ns[i], u, List.getElem?_eq_getElem hb, by rw [e, List.getD_eq_getElem?_getD, List.getElem?_eq_getElem hb]; rfl⟩
      · obtain ⟨h', g', d', tk', os'⟩ := t
        obtain rfl : g' = s.gens := hm.gens
        obtain rfl : d' = s.drawn := hm.drawn
        obtain rfl : os' = s.os := hm.os
        refine wpAny_pure (show wpAny _ _ (ret Value.none) _ _ _ from wpAny_pure ⟨rfl, h', tk', c, rfl, hS, fun b o e => ?_⟩)
        have lb := Heap.lt_size e
        refine hm.heap b o ?_ (Heap.get?_push_of_some _ (Heap.get?_push_of_some _ e))
        simp only [List.mem_cons, List.not_mem_nil, or_false, not_or]
        exact ⟨Nat.ne_of_lt lb, by rw [sz]; exact Nat.ne_of_lt (Nat.lt_succ_of_lt lb)⟩
    · match r2, hr2 with
      | .error e, hr2 => exact hr2
      | .ok (.ret v), hr2 =>
        obtain ⟨rfl, h', tk, c, rfl, hS, hk⟩ := hr2
        repeat (any_goals (first | assumption | wp_step))
        exact k _ _ _ hS hk
      | .ok .next, hr2 => exact hr2.elim
      | .ok .brk, hr2 => exact hr2.elim
      | .ok .cont, hr2 => exact hr2.elim
  | .ok .next, hr => exact hr.elim
  | .ok .brk, hr => exact hr.elim
  | .ok .cont, hr => exact hr.elim
end
/-- set(xs): as many members as there are unlike ones -/
def rSetR (K : PySem.W.Frag) (w : World) : List V → Hp → VK → Prop := fun vs H Q => ∃ (l : Addr) (ns : List Int), vs = [V.ref l] ∧ SqL K H l (ns.map V.int) ∧ ns.length ≤ 4000 ∧
  ∀ (p : Addr) (c : Nat), H p = none → (∀ ys : List Int, (∀ z ∈ ns, z ∈ ys) → c ≤ ys.length) → Q (.ref p) (upd H p (SetO w p (fun k => decide (k ∈ ns)) c))
section
variable {X : Cx}
theorem cr_setR {w : World} {K : PySem.W.Frag} (hc : X.calm = true) (e : X.K = K := by rfl) (e2 : X.w = w := by rfl) : CallR X (.type "set") (rSetR K w) := by
  subst e e2
  intro pins s σ H vs us Q I r h
  obtain ⟨l, ns, rfl, hq, hl, q⟩ := h
  rw [Vals.ref1 r]
  obtain ⟨its, rv, pl, hz⟩ := I.list hq
  refine call_setL ns (I.ok.hd hc) pl.isList (by simpa using RZ.intsAre_vals rv) (by unfold scanBound; omega) fun h' tk c hS hk => ?_
  exact ⟨.ref s.heap.objs.size, upd H s.heap.objs.size (SetO X.w s.heap.objs.size (fun k => decide (k ∈ ns)) c), I.laid (t' := tk) (fun b o e => hk b o e) (Nat.le_refl _) (setO_new hS), rfl, q _ _ (I.hok.fresh (Nat.le_refl _)) fun ys h => setR_many hS fun z hz => h z (of_decide_eq_true hz)⟩
theorem cr_sortR {w : World} (hc : X.calm = true) (e2 : X.w = w := by rfl) : CallR X (.builtin "sorted") (rSortedSet w) := by
  subst e2
  exact cr_sortedSet hc
end
end MXr
/-! Frames: all stays but one thing that is no list and no tuple (a set); lists of ints compared. -/
namespace LK
open PySem PySem.Spec PyProof.Rows L2
theorem eqv_intsA : ∀ xs ys : List Int, PyData.eqvAll (xs.map PyData.int) (ys.map PyData.int) = decide (xs = ys)
  | [], [] => by simp [PyData.eqvAll]
  | [], _ :: _ => by simp [PyData.eqvAll]
  | _ :: _, [] => by simp [PyData.eqvAll]
  | x :: xs, y :: ys => by
    rw [List.map_cons, List.map_cons, PyData.eqvAll, eqv_intsA xs ys, Bool.eq_iff_iff]
    simp [PyData.eqv]
theorem eqv_ints (xs ys : List Int) : PyData.eqv (.list (xs.map PyData.int)) (.list (ys.map PyData.int)) = decide (xs = ys) := by
  rw [PyData.eqv]
  exact eqv_intsA xs ys
/-- an object that is no list, no tuple and nothing locked -/
def Odd (o : HO) : Prop := ∃ φ, o = .ext φ
theorem sqL_bt {K : PySem.W.Frag} {H H' : Hp} {T a : Addr} {o : HO} {xs : List V} (hT : H T = some o) (od : Odd o) (b : Bt T H H') (h : SqL K H a xs) : SqL K H' a xs := by
  obtain ⟨φ, rfl⟩ := od
  rcases h with (h | ⟨o, h⟩) | h
  · exact .inl (.inl (b _ _ (fun e => by rw [e, hT] at h; cases h) h))
  · exact .inl (.inr ⟨o, b _ _ (fun e => by rw [e, hT] at h; cases h) h⟩)
  · exact .inr h
theorem sqT_bt {K : PySem.W.Frag} {H H' : Hp} {T a : Addr} {o : HO} {xs : List V} (hT : H T = some o) (od : Odd o) (b : Bt T H H') (h : SqT K H a xs) : SqT K H' a xs := by
  obtain ⟨φ, rfl⟩ := od
  rcases h with (h | ⟨o, h⟩) | h
  · exact .inl (.inl (b _ _ (fun e => by rw [e, hT] at h; cases h) h))
  · exact .inl (.inr ⟨o, b _ _ (fun e => by rw [e, hT] at h; cases h) h⟩)
  · exact .inr h
mutual
theorem dp_xt {K : PySem.W.Frag} {H H' : Hp} {T : Addr} {o : HO} (hT : H T = some o) (od : Odd o) (e : Bt T H H') : ∀ {v : V} {d : PyData}, Dp K H v d → Dp K H' v d
  | _, _, .non => .non
  | _, _, .bl b => .bl b
  | _, _, .int i => .int i
  | _, _, .str x => .str x
  | _, _, .lst s a => .lst (sqL_bt hT od e s) (dps_xt hT od e a)
  | _, _, .tup s a => .tup (sqT_bt hT od e s) (dps_xt hT od e a)
theorem dps_xt {K : PySem.W.Frag} {H H' : Hp} {T : Addr} {o : HO} (hT : H T = some o) (od : Odd o) (e : Bt T H H') : ∀ {vs : List V} {ds : List PyData}, DpAll K H vs ds → DpAll K H' vs ds
  | _, _, .nil => .nil
  | _, _, .cons a r => .cons (dp_xt hT od e a) (dps_xt hT od e r)
end
/-- in, not in, over SetO, in a block too -/
theorem inS {X : Cx} {w : World} (e : X.w = w := by rfl) : OpR X (compareOp .In) (rSIn w) := e ▸ or_sin
theorem ninS {X : Cx} {w : World} (e : X.w = w := by rfl) : OpR X (compareOp .NotIn) (rSNotIn w) := e ▸ or_snotin
theorem cr_set0w {X : Cx} {w : World} (e : X.w = w := by rfl) : CallR X (.type "set") (rSet0 w) := e ▸ cr_set0
theorem pe_saddw {X : Cx} {w : World} {o e : Expr} {es : List Expr} {to : TE} {t : TA} {apos cpos : Pos} (ho : PE X o to) (ha : PA X (e :: es) t) (ew : X.w = w := by rfl) (hb : attributeBase o "add" X.env (eval o X.env) = eval o X.env := by rfl)
    (hf : ((backTo cpos (starEach (e :: es) X.env)).all (fun x => !x.1) && (backToKw cpos (keywordEach [] X.env)).all (fun x => x.1.isSome) && decide ((e :: es).length + ([] : List Keyword).length + (if ([] : List Keyword).isEmpty then 0 else 1) < 30)) = true := by rfl)
    (hl : (apos.endLine == cpos.line) = true := by rfl) (hs : starEach (e :: es) X.env = (false, eval e X.env) :: starEach es X.env := by rfl) (hp : (backTo cpos (starEach es X.env)).any (·.1) = false := by rfl) : PE X (.Call (.Attribute o "add" apos) (e :: es) [] cpos) (tSAdd w to t) := by
  subst ew
  exact pe_sadd ho ha hb hf hl hs hp
/-- how many numbers below m are in -/
def cntS (S : Int → Bool) (m : Nat) : Nat := ((List.range m).filter fun k : Nat => S (k : Int)).length
theorem cntS_le (S : Int → Bool) (m : Nat) : cntS S m ≤ m := by
  have := List.length_filter_le (fun k : Nat => S (k : Int)) (List.range m)
  rwa [List.length_range] at this
theorem cntS_zero (m : Nat) : cntS (fun _ => false) m = 0 := by
  unfold cntS
  simp
theorem cntS_succ (S : Int → Bool) (m : Nat) : cntS S (m + 1) = cntS S m + if S (m : Int) = true then 1 else 0 := by
  unfold cntS
  rw [List.range_succ, List.filter_append, List.length_append]
  congr 1
  cases h : S (m : Int) <;> simp [h]
theorem cntS_same {S S' : Int → Bool} {m : Nat} (h : ∀ k : Nat, k < m → S (k : Int) = S' (k : Int)) : cntS S m = cntS S' m := by
  unfold cntS
  rw [List.filter_congr fun k hk => h k (List.mem_range.mp hk)]
theorem cntS_add {S : Int → Bool} {p : Nat} (hp : S (p : Int) = false) : ∀ {m : Nat}, p < m → cntS (fun j => S j || decide (j = (p : Int))) m = cntS S m + 1
  | 0, h => absurd h (Nat.not_lt_zero _)
  | m + 1, h => by
    rw [cntS_succ, cntS_succ]
    by_cases c : p = m
    · subst c
      rw [cntS_same (S' := S) fun k hk => by rw [decide_eq_false (by omega), Bool.or_false]]
      simp [hp]
    · rw [cntS_add hp (by omega), decide_eq_false (by omega), Bool.or_false]
      omega
end LK
namespace B7
open PySem PySem.Spec PyProof.Rows L2 LK MXo MXi MXp
def irlD (ls : List Lp) (ms cuts : List Int) : Bool := decide (((fallD ls ms cuts).map fun k : Nat => (k : Int)) = srt cuts)
/-- fast, or with a child that stands -/
def heldD (ls : List Lp) (ms cuts : List Int) (z : Int) : Bool := decide (z ∈ ms) || (upL ls ms cuts ls.length).any fun j => decide (z ∈ parOf ls j)
def lcD (ls : List Lp) (ms cuts : List Int) : List Int := (srt cuts).filter (heldD ls ms cuts)
end B7
/-! The program: children_of. -/
namespace B7
open PySem PySem.Spec PyProof.Rows L2 LK MXo MXi MXp
abbrev sKin : Stmt := top 17
theorem scKin : FnScope ["cloth", "loops", "_", "kin", "child", "parents", "parent"] ["cloth"] (defScope sKin) := ⟨rfl, rfl, rfl, by decide +kernel, rfl, by decide +kernel, by decide +kernel⟩
/-- what is no item of ks stays -/
def Fr (ks : List Addr) (H H' : Hp) : Prop := ∀ b o, b ∉ ks → H b = some o → H' b = some o
theorem Fr.refl {ks : List Addr} {H : Hp} : Fr ks H H := fun _ _ _ e => e
theorem Fr.trans {ks : List Addr} {H H1 H2 : Hp} (a : Fr ks H H1) (b : Fr ks H1 H2) : Fr ks H H2 := fun c o n e => b c o n (a c o n e)
theorem Fr.put {ks : List Addr} {H H' : Hp} {a : Addr} {o : HO} (f : Fr ks H H') (m : a ∈ ks) : Fr ks H (L2.upd H' a o) := fun b u n e => by
  rw [upd_ne (fun z => n (by rw [z]; exact m))]
  exact f b u n e
theorem sqT_fr {K : PySem.W.Frag} {ks : List Addr} {H H' : Hp} {a : Addr} {xs : List V} (hk : ∀ b ∈ ks, ∃ ys, H b = some (.lst ys)) (f : Fr ks H H') (h : SqT K H a xs) : SqT K H' a xs := by
  rcases h with (h | ⟨o, h⟩) | h
  · exact .inl (.inl (f _ _ (fun m => by obtain ⟨ys, e⟩ := hk _ m; rw [e] at h; cases h) h))
  · exact .inl (.inr ⟨o, f _ _ (fun m => by obtain ⟨ys, e⟩ := hk _ m; rw [e] at h; cases h) h⟩)
  · exact .inr h
theorem ints_fr {K : PySem.W.Frag} {H H' : Hp} : ∀ {vs : List V} {ns : List Int}, DpAll K H vs (ns.map PyData.int) → DpAll K H' vs (ns.map PyData.int)
  | _, [], .nil => .nil
  | _, _ :: _, .cons d r => by
    cases d
    exact .cons (.int _) (ints_fr r)
theorem dps_fr {K : PySem.W.Frag} {ks : List Addr} {H H' : Hp} (hk : ∀ b ∈ ks, ∃ ys, H b = some (.lst ys)) (f : Fr ks H H') : ∀ {vs : List V} {ls : List Lp}, DpAll K H vs (ls.map lpD) → DpAll K H' vs (ls.map lpD)
  | _, [], .nil => .nil
  | _, _ :: _, .cons d r => by
    refine .cons ?_ (dps_fr hk f r)
    cases d with
    | tup st da =>
      cases da with
      | cons d1 da =>
        cases d1
        cases da with
        | cons d2 dn =>
          cases dn
          cases d2 with
          | tup st2 da2 => exact .tup (sqT_fr hk f st) (.cons (.str _) (.cons (.tup (sqT_fr hk f st2) (ints_fr da2)) .nil))
theorem nodup_at {α : Type} {ks : List α} (nd : ks.Nodup) {i j : Nat} {a : α} (hi : ks[i]? = some a) (hj : ks[j]? = some a) : i = j := by
  obtain ⟨il, ei⟩ := List.getElem?_eq_some_iff.mp hi
  obtain ⟨jl, ej⟩ := List.getElem?_eq_some_iff.mp hj
  rcases Nat.lt_trichotomy i j with c | c | c
  · exact absurd (ei.trans ej.symm) (List.pairwise_iff_getElem.mp nd i j il jl c)
  · exact c
  · exact absurd (ej.trans ei.symm) (List.pairwise_iff_getElem.mp nd j i jl il c)
/-- the parents are ascending numbers of earlier loops -/
def Par (ls : List Lp) : Prop := ∀ (k : Nat) (l : Lp), ls[k]? = some l → l.2.Pairwise (· < ·) ∧ ∀ p ∈ l.2, 0 ≤ p ∧ p < (k : Int)
/-- the children below i -/
def kidsU (ls : List Lp) (i k : Nat) : List Nat := (List.range i).filter fun j => decide ((k : Int) ∈ parOf ls j)
theorem kidsU_len (ls : List Lp) (i k : Nat) : (kidsU ls i k).length ≤ i := by
  have := List.length_filter_le (fun j => decide ((k : Int) ∈ parOf ls j)) (List.range i)
  rwa [List.length_range] at this
/-- the list of the lists of children at p -/
def KinAt (H0 H : Hp) (p : Addr) (ls : List Lp) : Prop := ∃ ks : List Addr, H p = some (.lst (ks.map V.ref)) ∧ ks.length = ls.length ∧ ks.Nodup ∧ p ∉ ks ∧ (∀ a ∈ ks, H0 a = none) ∧ ∀ k a, ks[k]? = some a → H a = some (.lst (nI (kidsU ls ls.length k)))
def spKin (K : PySem.W.Frag) (CC : Addr) : Sp := fun vs H Q _ => ∃ (x : Addr) (ls : List Lp) (ms : List Int), vs = [.ref x] ∧ IsC K CC H x ls ms ∧ ls.length ≤ 100 ∧ Par ls ∧
  ∀ (p : Addr) (H' : Hp), H p = none → Same H H' → KinAt H H' p ls → Q (.ref p) H'
section
variable {P : Program} {w : World} {K : PySem.W.Frag} {mg : Str → Option Value} {base : Heap} {CC : Addr}
theorem ok_Kin {f : Addr} {fd : FuncData} (F : Fun K "children_of" "children_of" sKin f fd) (B : Bl mg) (R : Pr2 P w K mg base CC) : FnOk P w K mg base CX0 3 f fd ["cloth"] (spKin K CC) := by
  refine F.ok scKin (fun vs H Q E h => ?_) (fun cdv A outer s H vs Q E hr h => ?_)
  · obtain ⟨x, _, _, rfl, _⟩ := h
    rfl
  · obtain ⟨x, ls, ms, rfl, ic, ln, par, k⟩ := h
    refine ⟨_, pss_cons (ps_set (i := 1) scKin.nd rfl (Or.inl rfl) (pe_prop (pv 0) R.cc R.aL R.oL (hr.mono (by decide)) R.bL .nil pass0 (by rfl)))
      (pss_cons (ps_setLc (i := 3) (own := [("_", 2)]) (g := gName 2) (tt := tYes) rfl scKin.nd rfl rfl (sw_true rfl rfl rfl (by decide +kernel)) (pi_list (pv 1)) (blkOk_by (N := ["cloth", "loops", "_", "kin", "child", "parents", "parent"]) (sc := defScope sKin) (by decide +kernel)) (fun _ _ _ _ _ => pg_name (i := 2) scKin.nd rfl (Or.inl rfl)) (fun _ _ _ _ _ => pts_nil) (fun _ _ _ _ _ => pe_lst pa_nil))
      (pss_cons (ps_for PassesOwn.never rfl (pi_enum (by rfl) (B "enumerate" (by decide)) (pa_cons (pv 1) pa_nil)) (pg_tup rfl (pgs_cons (pg_name (i := 4) scKin.nd rfl (Or.inl rfl)) (pgs_cons (pg_tup rfl (pgs_cons (pg_name (i := 2) scKin.nd rfl (Or.inl rfl)) (pgs_cons (pg_name (i := 5) scKin.nd rfl (Or.inl rfl)) pgs_nil))) pgs_nil))) (pss_one (ps_for PassesOwn.never rfl (pi_tup (pv 5)) (pg_name (i := 6) scKin.nd rfl (Or.inl rfl)) (pss_one (ps_expr (pe_bm PySem.F.plainAttrs_list PySem.F.slot_list_append PySem.F.type_list_append mt_append (pe_ix ix_list (pv 3) (pv 6) (fun _ _ => rfl)) (pa_cons (pv 4) pa_nil)))))))
      (pss_one (ps_ret (pv 3))))), ?_⟩
    have ty2 : sizeLine = 16777216 := sizeLine_eq
    obtain ⟨dx, L0, G0, xs, hx, hL, dl, hG⟩ := ic
    have xl : xs.length = ls.length := by rw [dps_len dl, List.length_map]
    refine ⟨_, rfl, x, dx, _, rfl, hx, x, dx, L0, _, xs, rfl, hx, R.cc, R.n1, rfl, hL, fun L nL => ?_⟩
    have a1 := same_new (o := .lst xs) nL
    have eL := upd_same (H := H) (a := L) (o := .lst xs)
    generalize upd H L (.lst xs) = H1 at a1 eL
    refine ⟨_, rfl, L, rfl, ⟨_, SqL.of eL⟩, fun J nJ => ?_⟩
    refine lc_list (K := K) (a := L) (xs := xs) (fun j H' => ∃ ks : List Addr, Same H1 H' ∧ H' J = some (.lst (ks.map V.ref)) ∧ ks.length = j ∧ ks.Nodup ∧ J ∉ ks ∧ ∀ a ∈ ks, H' a = some (.lst []) ∧ H1 a = none)
      ⟨[], same_new nJ, upd_same, rfl, List.nodup_nil, List.not_mem_nil, fun a h => absurd h List.not_mem_nil⟩ (fun j H' hj hh => by obtain ⟨_, s, _⟩ := hh; exact SqL.of (s _ _ eL)) (fun j y H' hy hh => ⟨rfl, ?_⟩) (fun H' hh => ?_)
    · obtain ⟨ks, s, eJ, kl, nd, jk, al⟩ := hh
      refine ⟨by show 0 ≤ sizeLine; decide, fun q nq => ?_⟩
      have s2 := same_new (o := .lst []) nq
      have qk : q ∉ ks := fun m => by rw [(al q m).1] at nq; cases nq
      have jl : j < xs.length := (List.getElem?_eq_some_iff.mp hy).1
      refine ⟨_, s2 _ _ eJ, by rw [List.length_map]; omega, ks ++ [q], fun b o e => ?_, ?_, by rw [List.length_append, kl]; rfl, ?_, ?_, fun a ha => ?_⟩
      · rw [upd_ne (ne_of_none e nJ)]
        exact s2 _ _ (s _ _ e)
      · rw [upd_same, List.map_append]
        rfl
      · rw [List.nodup_append]
        exact ⟨nd, List.pairwise_singleton _ _, fun a ha b hb e => qk (by rw [← List.mem_singleton.mp hb, ← e]; exact ha)⟩
      · rw [List.mem_append, List.mem_singleton]
        rintro (m | rfl)
        · exact jk m
        · rw [eJ] at nq
          cases nq
      · rcases List.mem_append.mp ha with ha | ha
        · exact ⟨by rw [upd_ne (fun e => jk (by rw [← e]; exact ha))]; exact s2 _ _ (al a ha).1, (al a ha).2⟩
        · rw [List.mem_singleton.mp ha]
          exact ⟨by rw [upd_ne (fun e => by rw [e, eJ] at nq; cases nq)]; exact upd_same, gone s nq⟩
    · obtain ⟨ks, s, eJ, kl, nd, jk, al⟩ := hh
      have s0 := a1.trans s
      have eL2 := s _ _ eL
      have dl2 := dps_same s0 dl
      have Lk : L ∉ ks := fun m => by rw [(al L m).2] at eL; cases eL
      rw [xl] at kl
      have get : ∀ k < ls.length, ∃ a, ks[k]? = some a := fun k hk => ⟨ks[k]'(by omega), List.getElem?_eq_getElem (by omega)⟩
      refine ⟨_, rfl, L, xs, rfl, SqL.of eL2, ?_⟩
      refine for_enum (xs := xs) (fun i σ Hn => ∃ (o2 o4 o5 o6 : Option V), σ = [some (.ref x), some (.ref L), o2, some (.ref J), o4, o5, o6] ∧ Fr ks H' Hn ∧ ∀ k a, ks[k]? = some a → Hn a = some (.lst (nI (kidsU ls i k))))
        ⟨_, _, _, _, rfl, Fr.refl, fun k a e => (al a (List.mem_of_getElem? e)).1⟩ (fun i σ Hn hI => by obtain ⟨_, _, _, _, _, f, _⟩ := hI; exact SqL.of (f _ _ Lk eL2)) (fun i y T σ Hn hy hI nT => ?_) (fun σ Hn hI => ?_)
      · obtain ⟨o2, o4, o5, o6, rfl, f, hk⟩ := hI
        have il : i < ls.length := by rw [← xl]; exact (List.getElem?_eq_some_iff.mp hy).1
        have oldT : ∀ a ∈ ks, a ≠ T := fun a ha e => by
          obtain ⟨k, hk2⟩ := List.getElem?_of_mem ha
          rw [e] at hk2
          rw [hk k T hk2] at nT
          cases nT
        have f1 : Fr ks H' (upd Hn T (.tup [.int (i : Nat), y])) := fun b o nb e => by
          have e1 := f b o nb e
          rw [upd_ne (ne_of_none e1 nT)]
          exact e1
        have hk1 : ∀ k a, ks[k]? = some a → upd Hn T (.tup [.int (i : Nat), y]) a = some (.lst (nI (kidsU ls i k))) := fun k a e => by
          rw [upd_ne (oldT a (List.mem_of_getElem? e))]
          exact hk k a e
        obtain ⟨v1, d1, q1, q2, q3⟩ := dps_at (dps_fr (fun a ha => ⟨_, (al a ha).1⟩) f1 dl2) (i := i) (by rw [List.length_map]; omega)
        obtain rfl : y = v1 := Option.some.inj (hy.symm.trans q1)
        rw [List.getElem?_map] at q2
        obtain ⟨l, hl1, rfl⟩ := Option.map_eq_some_iff.mp q2
        have ep : parOf ls i = l.2 := by unfold parOf; rw [hl1]
        obtain ⟨pw, pr⟩ := par i l hl1
        cases q3 with
        | tup st da =>
          cases da with
          | cons d1 da =>
            cases d1
            cases da with
            | cons d2 dn =>
              cases dn
              cases d2 with
              | @tup pt _ _ st2 da2 =>
                have ex := dp_ints da2
                subst ex
                refine ⟨T, _, rfl, .inl (.inl upd_same), rfl, _, _, rfl, _, _, rfl, ?_⟩
                refine ⟨_, _, rfl, st, rfl, _, _, rfl, _, _, rfl, rfl, rfl, ?_⟩
                refine ⟨_, rfl, pt, rfl, ⟨_, st2⟩, ?_⟩
                generalize upd Hn T (.tup [.int (i : Nat), _]) = Hm at *
                refine for_tup (K := K) (a := pt) (xs := l.2.map V.int) (fun j σ Hq => ∃ (o6 : Option V), σ = [some (.ref x), some (.ref L), some (.str l.1), some (.ref J), some (.int (i : Nat)), some (.ref pt), o6] ∧ Fr ks Hm Hq ∧ ∀ k a, ks[k]? = some a → Hq a = some (.lst (nI (kidsU ls i k ++ if (k : Int) ∈ l.2.take j then [i] else []))))
                  ⟨_, rfl, Fr.refl, fun k a e => by rw [hk1 k a e]; simp⟩ (fun j σ Hq hj hJ => by obtain ⟨_, _, f2, _⟩ := hJ; exact sqT_fr (fun a ha => by obtain ⟨k, e⟩ := List.getElem?_of_mem ha; exact ⟨_, hk1 k a e⟩) f2 st2) (fun j y2 σ Hq hy2 hJ => ?_) (fun σ Hq hJ => ?_)
                · obtain ⟨o6, rfl, f2, hq⟩ := hJ
                  rw [List.getElem?_map] at hy2
                  obtain ⟨z, hz, rfl⟩ := Option.map_eq_some_iff.mp hy2
                  have zr := pr z (List.mem_of_getElem? hz)
                  obtain ⟨p, rfl⟩ := Int.eq_ofNat_of_zero_le zr.1
                  have pn : p < ls.length := by omega
                  obtain ⟨a, ea⟩ := get p pn
                  have ha := hq p a ea
                  have jl : j < l.2.length := (List.getElem?_eq_some_iff.mp hz).1
                  have nin : (p : Int) ∉ l.2.take j := fun m => by
                    obtain ⟨r, hr2, er⟩ := List.getElem_of_mem m
                    rw [List.length_take] at hr2
                    rw [List.getElem_take] at er
                    have lt := List.pairwise_iff_getElem.mp pw r j (by omega) jl (by omega)
                    rw [er, (List.getElem?_eq_some_iff.mp hz).2] at lt
                    omega
                  rw [if_neg nin, List.append_nil] at ha
                  have kL := kidsU_len ls i p
                  refine ⟨_, rfl, _, rfl, J, _, (p : Int), _, rfl, rfl, SqL.of (f2 _ _ jk (f1 _ _ jk eJ)), atI_nat (v := V.ref a) (by rw [List.getElem?_map, ea]; rfl), .inl ⟨rfl, _, SqL.of ha⟩, _, rfl, a, _, _, rfl, rfl, ha, by rw [List.length_map]; omega, _, rfl, f2.put (List.mem_of_getElem? ea), fun k b eb => ?_⟩
                  by_cases kp : k = p
                  · subst kp
                    obtain rfl : a = b := Option.some.inj (ea.symm.trans eb)
                    rw [upd_same, if_pos (by rw [List.take_add_one, hz]; simp)]
                    unfold nI
                    rw [List.map_append]
                    rfl
                  · have ab : b ≠ a := fun e => by
                      subst e
                      exact kp (nodup_at nd eb ea)
                    rw [upd_ne ab, hq k b eb]
                    have : ((k : Int) ∈ l.2.take (j + 1)) ↔ (k : Int) ∈ l.2.take j := by
                      rw [List.take_add_one, hz, Option.toList_some, List.mem_append, List.mem_singleton]
                      exact ⟨fun h => h.elim id (fun e => by omega), .inl⟩
                    simp only [this]
                · obtain ⟨o6, rfl, f2, hq⟩ := hJ
                  rw [List.length_map, List.take_length] at hq
                  refine ⟨_, _, _, _, rfl, f1.trans f2, fun k a e => ?_⟩
                  rw [hq k a e]
                  unfold kidsU
                  rw [filt_more, ep]
                  by_cases c : (k : Int) ∈ l.2 <;> simp [c]
      · obtain ⟨o2, o4, o5, o6, rfl, f, hk⟩ := hI
        rw [xl] at hk
        have s3 : Same H Hn := fun b o e => f b o (fun m => by rw [gone a1 (al b m).2] at e; cases e) (s0 _ _ e)
        refine ⟨_, rfl, k J Hn (gone a1 nJ) s3 ⟨ks, f _ _ jk eJ, kl, nd, jk, fun a ha => gone a1 (al a ha).2, hk⟩⟩
end
end B7
/-! The program: meeting. -/
namespace B7
open PySem PySem.Spec PyProof.Rows L2 LK MXo MXi MXp
abbrev sMeet : Stmt := top 20
theorem scMeet : FnScope ["near", "one", "other"] ["near", "one", "other"] (defScope sMeet) := ⟨rfl, rfl, rfl, by decide +kernel, rfl, by decide +kernel, by decide +kernel⟩
/-- where two chains meet -/
def meetD (nr : List Nat) : Nat → Nat → Nat → Nat
  | 0, p, _ => p
  | t + 1, p, q => if p = q then p else if p < q then meetD nr t (nr.getD p 0) q else meetD nr t p (nr.getD q 0)
theorem meetD_self (nr : List Nat) (t p : Nat) : meetD nr t p p = p := by
  cases t with
  | zero => rfl
  | succ t => rw [meetD, if_pos rfl]
theorem getD_of {nr : List Nat} {i v : Nat} (h : nr[i]? = some v) : nr.getD i 0 = v := by
  rw [List.getD_eq_getElem?_getD, h]
  rfl
/-- each number tells a greater one -/
def Nr (nr : List Nat) : Prop := ∀ i v, nr[i]? = some v → i < v ∧ v ≤ nr.length
theorem meetD_le {nr : List Nat} (h : Nr nr) : ∀ (t : Nat) {p q : Nat}, p ≤ nr.length → q ≤ nr.length → p ≤ meetD nr t p q ∧ meetD nr t p q ≤ nr.length
  | 0, p, q, hp, _ => ⟨Nat.le_refl _, hp⟩
  | t + 1, p, q, hp, hq => by
    rw [meetD]
    by_cases c : p = q
    · rw [if_pos c]
      exact ⟨Nat.le_refl _, hp⟩
    · rw [if_neg c]
      by_cases c2 : p < q
      · rw [if_pos c2]
        have pl : p < nr.length := by omega
        have hv : nr[p]? = some nr[p] := List.getElem?_eq_getElem pl
        obtain ⟨b1, b2⟩ := h p _ hv
        rw [getD_of hv]
        obtain ⟨r1, r2⟩ := meetD_le h t b2 hq
        exact ⟨by omega, r2⟩
      · rw [if_neg c2]
        have ql : q < nr.length := by omega
        have hv : nr[q]? = some nr[q] := List.getElem?_eq_getElem ql
        obtain ⟨b1, b2⟩ := h q _ hv
        rw [getD_of hv]
        exact meetD_le h t hp b2
theorem Nr.set {nr : List Nat} (h : Nr nr) {k v : Nat} (a : k < v) (b : v ≤ nr.length) : Nr (nr.set k v) := fun i u e => by
  rw [List.length_set]
  rw [List.getElem?_set] at e
  by_cases c : k = i
  · subst c
    rw [if_pos rfl] at e
    split at e
    · obtain rfl := Option.some.inj e
      exact ⟨a, b⟩
    · cases e
  · rw [if_neg c] at e
    exact h i u e
def spMeet (K : PySem.W.Frag) : Sp := fun vs H Q _ => ∃ (a : Addr) (nr : List Nat) (p q : Nat), vs = [.ref a, .int (p : Int), .int (q : Int)] ∧ SqL K H a (nI nr) ∧ Nr nr ∧ p ≤ nr.length ∧ q ≤ nr.length ∧ Q (.int (meetD nr (2 * nr.length + 1) p q : Nat)) H
section
variable {P : Program} {w : World} {K : PySem.W.Frag} {mg : Str → Option Value} {base : Heap} {CC : Addr}
theorem ok_Meet {f : Addr} {fd : FuncData} (F : Fun K "meeting" "meeting" sMeet f fd) (B : Bl mg) : FnOk P w K mg base CX0 1 f fd ["near", "one", "other"] (spMeet K) := by
  refine F.ok scMeet (fun vs H Q E h => ?_) (fun cdv A outer s H vs Q E hr h => ?_)
  · obtain ⟨a, nr, p, q, rfl, _⟩ := h
    rfl
  · obtain ⟨a, nr, p, q, rfl, ha, hn, hp, hq, k⟩ := h
    refine ⟨_, pss_cons (ps_while PassesOwn.never (pt_cmpR op_ne (pv 1) (pv 2) (nomark _)) (pss_one (ps_if (pt_cmpR op_lt (pv 1) (pv 2) (nomark _)) (pss_one (ps_set (i := 1) scMeet.nd rfl (Or.inl rfl) (pe_ix ix_list (pv 0) (pv 1) (fun _ _ => rfl)))) (pss_one (ps_set (i := 2) scMeet.nd rfl (Or.inl rfl) (pe_ix ix_list (pv 0) (pv 2) (fun _ _ => rfl)))))))
      (pss_one (ps_ret (pv 1))), ?_⟩
    refine ⟨fun m σ H' => H' = H ∧ ∃ (p' q' t : Nat), σ = [some (.ref a), some (.int (p' : Int)), some (.int (q' : Int))] ∧ (nr.length - p') + (nr.length - q') = m ∧ p' ≤ nr.length ∧ q' ≤ nr.length ∧ m ≤ t ∧ meetD nr t p' q' = meetD nr (2 * nr.length + 1) p q,
      ⟨_, rfl, p, q, 2 * nr.length + 1, rfl, rfl, hp, hq, by omega, rfl⟩, ?_⟩
    rintro m σ H' ⟨rfl, p', q', t, rfl, hm, hp', hq', ht, e⟩
    refine ⟨_, rfl, _, rfl, rfl, _, rfl, ?_⟩
    by_cases c : p' = q'
    · subst c
      refine LK.ifF (by simp) ⟨_, rfl, ?_⟩
      rw [meetD_self] at e
      rw [e]
      exact k
    · refine LK.ifT (by simp; omega) ⟨fun σ' H2 => ∃ m', m' < m ∧ H2 = H' ∧ ∃ (p' q' t : Nat), σ' = [some (.ref a), some (.int (p' : Int)), some (.int (q' : Int))] ∧ (nr.length - p') + (nr.length - q') = m' ∧ p' ≤ nr.length ∧ q' ≤ nr.length ∧ m' ≤ t ∧ meetD nr t p' q' = meetD nr (2 * nr.length + 1) p q, fun σ' H2 h => h, ?_⟩
      obtain ⟨t', rfl⟩ : ∃ t', t = t' + 1 := ⟨t - 1, by omega⟩
      refine ⟨_, rfl, _, rfl, _, _, rfl, rfl, _, rfl, ?_⟩
      by_cases c2 : p' < q'
      · have pl : p' < nr.length := by omega
        obtain ⟨v, hv⟩ : ∃ v, nr[p']? = some v := ⟨_, List.getElem?_eq_getElem pl⟩
        obtain ⟨b1, b2⟩ := hn p' v hv
        refine LK.ifT (decide_eq_true (by omega)) ⟨_, rfl, _, rfl, a, _, (p' : Int), _, rfl, rfl, ha, atI_nat (v := V.int (v : Int)) (by rw [List.getElem?_map, hv]; rfl), ?_⟩
        refine ⟨_, ?_, rfl, v, q', t', rfl, rfl, b2, hq', by omega, ?_⟩
        · omega
        · rw [← e, meetD, if_neg c, if_pos c2, getD_of hv]
      · have ql : q' < nr.length := by omega
        obtain ⟨v, hv⟩ : ∃ v, nr[q']? = some v := ⟨_, List.getElem?_eq_getElem ql⟩
        obtain ⟨b1, b2⟩ := hn q' v hv
        refine LK.ifF (decide_eq_false (by omega)) ⟨_, rfl, _, rfl, a, _, (q' : Int), _, rfl, rfl, ha, atI_nat (v := V.int (v : Int)) (by rw [List.getElem?_map, hv]; rfl), ?_⟩
        refine ⟨_, ?_, rfl, p', v, t', rfl, rfl, hp', b2, by omega, ?_⟩
        · omega
        · rw [← e, meetD, if_neg c, if_neg c2, getD_of hv]
end
end B7
/-! The program: nearest. -/
namespace B7
open PySem PySem.Spec PyProof.Rows L2 LK MXo MXi MXp
abbrev sNea : Stmt := top 21
theorem scNea : FnScope ["cloth", "cuts", "many", "found", "stands", "fast", "kin", "near", "loop", "child", "held"] ["cloth", "cuts"] (defScope sNea) := ⟨rfl, rfl, rfl, by decide +kernel, rfl, by decide +kernel, by decide +kernel⟩
theorem flat_rep {α : Type} (x : α) : ∀ n : Nat, (List.replicate n [x]).flatten = List.replicate n x
  | 0 => rfl
  | n + 1 => by rw [List.replicate_succ, List.flatten_cons, flat_rep x n]; rfl
theorem cut_one (x : V) (xs : List V) : cutV (x :: xs) (some 1) none = xs := by
  unfold cutV
  show List.take _ (List.drop (HT.sIx (x :: xs).length 0 (some 1)) (x :: xs)) = xs
  have e : HT.sIx (x :: xs).length 0 (some 1) = 1 := by
    unfold HT.sIx
    simp
  have e2 : HT.sIx (x :: xs).length (x :: xs).length none = (x :: xs).length := rfl
  rw [e, e2, List.drop_one, List.tail_cons, List.length_cons, Nat.add_sub_cancel, List.take_length]
/-- one more child of k, its chain and the chain so far: where they meet -/
def meetS (k : Nat) (nr : List Nat) (c : Nat) : List Nat := nr.set k (meetD nr (2 * nr.length + 1) (nr.getD k 0) c)
def nearStep (ls : List Lp) (ms : List Int) (up nr : List Nat) (k : Nat) : List Nat := if (k : Int) ∈ ms then nr else match (kidsU ls ls.length k).filter (fun c => decide (c ∈ up)) with
  | [] => nr
  | h :: t => t.foldl (meetS k) (nr.set k h)
def nearD (ls : List Lp) (ms cuts : List Int) : List Nat := (upL ls ms cuts ls.length).foldl (nearStep ls ms (upL ls ms cuts ls.length)) (List.replicate ls.length ls.length)
/-- what stands and is not fast has a child that stands -/
theorem up_kid {ls : List Lp} {ms cuts : List Int} : ∀ {m k : Nat}, k ∈ upL ls ms cuts m → (k : Int) ∉ ms → ∃ j ∈ upL ls ms cuts m, (k : Int) ∈ parOf ls j
  | 0, _, h, _ => absurd h List.not_mem_nil
  | m + 1, k, h, nm => by
    unfold upL at h ⊢
    by_cases b : upB ls ms cuts (upL ls ms cuts m) (ls.length - 1 - m) = true
    · rw [if_pos b] at h ⊢
      rcases List.mem_append.mp h with h | h
      · obtain ⟨j, hj, hp⟩ := up_kid h nm
        exact ⟨j, List.mem_append_left _ hj, hp⟩
      · obtain rfl := List.mem_singleton.mp h
        unfold upB at b
        rw [decide_eq_false nm, Bool.false_or, Bool.and_eq_true, List.any_eq_true] at b
        obtain ⟨j, hj, hp⟩ := b.2
        exact ⟨j, List.mem_append_left _ hj, of_decide_eq_true hp⟩
    · rw [if_neg b] at h ⊢
      exact up_kid h nm
theorem nr0 (n : Nat) : Nr (List.replicate n n) := fun i v e => by
  rw [List.getElem?_replicate] at e
  rw [List.length_replicate]
  split at e
  · obtain rfl := Option.some.inj e
    omega
  · cases e
def spNea (K : PySem.W.Frag) (CC : Addr) : Sp := fun vs H Q _ => ∃ (x ca : Addr) (ls : List Lp) (ms cuts : List Int), vs = [.ref x, .ref ca] ∧ IsC K CC H x ls ms ∧ Thin ls ∧ ms.length ≤ 100 ∧ SqL K H ca (cuts.map V.int) ∧ OkFs ls.length cuts ∧ Par ls ∧
  ∀ (p : Addr) (H' : Hp), H p = none → Same H H' → H' p = some (.lst (nI (nearD ls ms cuts))) → Q (.ref p) H'
section
variable {P : Program} {w : World} {K : PySem.W.Frag} {mg : Str → Option Value} {base : Heap} {CC : Addr}
theorem ok_Nea {f : Addr} {fd : FuncData} (F : Fun K "nearest" "nearest" sNea f fd) (B : Bl mg) (R : Pr2 P w K mg base CC)
    {f_standing : Addr} {d_standing : FuncData} (G_standing : FnOk P w K mg base CX0 5 f_standing d_standing ["cloth", "cuts"] (spStd K CC)) (g_standing : mg "standing" = some (.ref f_standing)) (k_standing : PySem.W.keepIn K (.ref f_standing) = true) (b_standing : Binds K d_standing ["cloth", "cuts"] [])
    {f_children_of : Addr} {d_children_of : FuncData} (G_children_of : FnOk P w K mg base CX0 3 f_children_of d_children_of ["cloth"] (spKin K CC)) (g_children_of : mg "children_of" = some (.ref f_children_of)) (k_children_of : PySem.W.keepIn K (.ref f_children_of) = true) (b_children_of : Binds K d_children_of ["cloth"] [])
    {f_meeting : Addr} {d_meeting : FuncData} (G_meeting : FnOk P w K mg base CX0 1 f_meeting d_meeting ["near", "one", "other"] (spMeet K)) (g_meeting : mg "meeting" = some (.ref f_meeting)) (k_meeting : PySem.W.keepIn K (.ref f_meeting) = true) (b_meeting : Binds K d_meeting ["near", "one", "other"] []) : FnOk P w K mg base CX0 6 f fd ["cloth", "cuts"] (spNea K CC) := by
  refine F.ok scNea (fun vs H Q E h => ?_) (fun cdv A outer s H vs Q E hr h => ?_)
  · obtain ⟨x, ca, _, _, _, rfl, _⟩ := h
    rfl
  · obtain ⟨x, ca, ls, ms, cuts, rfl, ic, thin, lm, hc, ok, par, k⟩ := h
    refine ⟨_, pss_cons (ps_set (i := 2) scNea.nd rfl (Or.inl rfl) (pe_callB (call_lenO (E := E0) R.aN R.oN (hr.mono (by decide)) R.bN pass0) (by rfl) (B "len" (by decide)) (by decide +kernel) (pa_cons (pv 0) pa_nil)))
      (pss_cons (ps_set (i := 3) scNea.nd rfl (Or.inl rfl) (pe_call (E := E0) G_standing (hr.mono (by decide)) rfl g_standing k_standing b_standing .nil pass0 (pa_cons (pv 0) (pa_cons (pv 1) pa_nil))))
      (pss_cons (ps_set (i := 4) scNea.nd rfl (Or.inr rfl) (pe_callTy (cr_setK (K := K) (P := P) (w := w) rfl) (by rfl) (B "set" (by decide)) (by decide +kernel) (pa_cons (pv 3) pa_nil)))
      (pss_cons (ps_set (i := 5) scNea.nd rfl (Or.inl rfl) (pe_callTy (cr_setK (K := K) (P := P) (w := w) rfl) (by rfl) (B "set" (by decide)) (by decide +kernel) (pa_cons (pe_prop (pv 0) R.cc R.aF R.oF (hr.mono (by decide)) R.bF .nil pass0 (by rfl)) pa_nil)))
      (pss_cons (ps_set (i := 6) scNea.nd rfl (Or.inl rfl) (pe_call (E := E0) G_children_of (hr.mono (by decide)) rfl g_children_of k_children_of b_children_of .nil pass0 (pa_cons (pv 0) pa_nil)))
      (pss_cons (ps_set (i := 7) scNea.nd rfl (Or.inl rfl) (pe_op op_rep (pe_lst (pa_cons (pv 2) pa_nil)) (pv 2)))
      (pss_cons (ps_for PassesOwn.never rfl (pi_reversed (by rfl) (B "reversed" (by decide)) (pa_cons (pv 3) pa_nil)) (pg_name (i := 8) scNea.nd rfl (Or.inl rfl)) (pss_one (ps_if (pt_cmpR (ninI (P := P) (w := w)) (pv 8) (pv 5) (by rfl)) (pss_cons (ps_setLc (i := 10) (own := [("child", 9)]) (g := gName 9) rfl scNea.nd rfl rfl (sw_true rfl rfl rfl (by decide +kernel)) (pi_list (pe_ix ix_list (pv 6) (pv 8) (fun _ _ => rfl))) (blkOk_by (N := ["cloth", "cuts", "many", "found", "stands", "fast", "kin", "near", "loop", "child", "held"]) (sc := defScope sNea) (by decide +kernel)) (fun _ _ _ _ _ => pg_name (i := 9) scNea.nd rfl (Or.inl rfl)) (fun _ _ _ _ _ => pts_one (pt_cmpR (inI (P := P) (w := w)) (pv 9) (pv 4) (by rfl))) (fun _ _ _ _ _ => pv 9))
      (pss_cons (ps_asg (pe_ix ix_list (pv 10) pe_int (fun _ _ => rfl)) (pg_sub (pv 7) (pv 8) set_list))
      (pss_one (ps_for PassesOwn.never rfl (pi_list (pe_slice sl_list (pv 10) (po_some pe_int) po_none)) (pg_name (i := 9) scNea.nd rfl (Or.inl rfl)) (pss_one (ps_asg (pe_call (E := E0) G_meeting (hr.mono (by decide)) rfl g_meeting k_meeting b_meeting .nil pass0 (pa_cons (pv 7) (pa_cons (pe_ix ix_list (pv 7) (pv 8) (fun _ _ => rfl)) (pa_cons (pv 9) pa_nil)))) (pg_sub (pv 7) (pv 8) set_list))))))) pss_nil)))
      (pss_one (ps_ret (pv 7))))))))), ?_⟩
    have ty2 : sizeLine = 16777216 := sizeLine_eq
    have sb : scanBound = 4096 := rfl
    have ln := thin.1
    obtain ⟨dx, L0, G0, xs, hx, hL, dl, hG⟩ := id ic
    have xl : xs.length = ls.length := by rw [dps_len dl, List.length_map]
    refine ⟨_, rfl, x, dx, _, rfl, hx, x, dx, L0, _, xs, rfl, hx, R.cc, R.n1, rfl, hL, _, rfl, by omega, by omega, ?_⟩
    rw [xl]
    refine ⟨_, rfl, _, rfl, x, ca, ls, ms, cuts, rfl, ic, thin, lm, hc, ok, fun U H1 nU s1 eU => ?_⟩
    have ul := upL_len ls ms cuts ls.length
    generalize hup : upL ls ms cuts ls.length = up at eU ul
    have upm : ∀ j ∈ up, j < ls.length := fun j hj => by rw [← hup] at hj; exact upL_lt (Nat.le_refl _) hj
    refine ⟨_, rfl, U, up.reverse.map fun k : Nat => (k : Int), rfl, SqL.of (by rw [← nI_ints]; exact eU), by rw [List.length_map, List.length_reverse]; omega, fun T c nT cl => ?_⟩
    have a1 := same_new (o := SetI P w T (fun k => decide (k ∈ up.reverse.map fun k : Nat => (k : Int))) c) nT
    have eT := upd_same (H := H1) (a := T) (o := SetI P w T (fun k => decide (k ∈ up.reverse.map fun k : Nat => (k : Int))) c)
    generalize upd H1 T (SetI P w T (fun k => decide (k ∈ up.reverse.map fun k : Nat => (k : Int))) c) = H2 at a1 eT
    have s2 := s1.trans a1
    obtain ⟨dx2, L2', G2, xs2, hx2, hL2, dl2, hG2⟩ := ic.same s2
    refine ⟨_, rfl, x, dx2, _, rfl, hx2, x, dx2, G2, _, ms.map V.int, rfl, hx2, R.cc, R.n2, rfl, hG2, fun G nG => ?_⟩
    have a2 := same_new (o := .lst (ms.map V.int)) nG
    refine ⟨G, ms, rfl, SqL.of upd_same, by omega, fun Fs c2 nF cl2 => ?_⟩
    have a3 := a2.trans (same_new (o := SetI P w Fs (fun k => decide (k ∈ ms)) c2) nF)
    have eF := upd_same (H := upd H2 G (.lst (ms.map V.int))) (a := Fs) (o := SetI P w Fs (fun k => decide (k ∈ ms)) c2)
    generalize upd (upd H2 G (.lst (ms.map V.int))) Fs (SetI P w Fs (fun k => decide (k ∈ ms)) c2) = H3 at a3 eF
    have s3 := s2.trans a3
    refine ⟨_, rfl, x, ls, ms, rfl, ic.same s3, ln, par, fun KP H4 nK a4 kin => ?_⟩
    obtain ⟨ks, eK, kl, nd, pk, kn, kat⟩ := kin
    refine ⟨_, rfl, by show 1 ≤ sizeLine; decide, fun M nM => ⟨_, rfl, M, (ls.length : Int), _, rfl, rfl, upd_same, by omega, by omega, ?_, fun J nJ => ?_⟩⟩
    · rw [List.length_singleton, Int.toNat_natCast]
      omega
    have b1 := same_new (o := .lst [.int (ls.length : Int)]) nM
    have b2 := b1.trans (same_new (o := .lst (List.replicate (ls.length : Int).toNat [V.int (ls.length : Int)]).flatten) nJ)
    have eJ : upd (upd H4 M (.lst [.int (ls.length : Int)])) J (.lst (List.replicate (ls.length : Int).toNat [V.int (ls.length : Int)]).flatten) J = some (.lst (nI (List.replicate ls.length ls.length))) := by
      rw [upd_same, Int.toNat_natCast, flat_rep]
      unfold nI
      rw [List.map_replicate]
    have nJ4 : H4 J = none := gone b1 nJ
    have nJ3 : H3 J = none := gone a4 nJ4
    have nJH : H J = none := gone s3 nJ3
    generalize upd (upd H4 M (.lst [.int (ls.length : Int)])) J (.lst (List.replicate (ls.length : Int).toNat [V.int (ls.length : Int)]).flatten) = H5 at b2 eJ
    have eU5 := b2 _ _ (a4 _ _ (a3 _ _ (a1 _ _ eU)))
    have eT5 := b2 _ _ (a4 _ _ (a3 _ _ eT))
    have eF5 := b2 _ _ (a4 _ _ eF)
    have eK5 := b2 _ _ eK
    have s5 := (s3.trans a4).trans b2
    have UJ : U ≠ J := fun z => by subst z; rw [a4 _ _ (a3 _ _ (a1 _ _ eU))] at nJ4; cases nJ4
    have TJ : T ≠ J := fun z => by subst z; rw [a4 _ _ (a3 _ _ eT)] at nJ4; cases nJ4
    have FJ : Fs ≠ J := fun z => by subst z; rw [a4 _ _ eF] at nJ4; cases nJ4
    have KJ : KP ≠ J := fun z => by subst z; rw [eK] at nJ4; cases nJ4
    have kJ : ∀ {k a}, ks[k]? = some a → a ≠ J := fun {k a} e z => by subst z; rw [kat k a e] at nJ4; cases nJ4
    have frame : ∀ {H'}, Bt J H5 H' → Same H H' := fun b q o e => b _ _ (ne_of_none e nJH) (s5 _ _ e)
    have ulen : (nI up.reverse).length = up.length := by rw [List.length_map, List.length_reverse]
    refine ⟨_, rfl, U, _, rfl, SqL.of eU5, ?_⟩
    refine RT.for_Itv (K := K) (a := U) (xs := nI up.reverse) (fun i σ Hn => ∃ (o8 o9 o10 : Option V) (nr : List Nat), σ = [some (.ref x), some (.ref ca), some (.int (ls.length : Int)), some (.ref U), some (.ref T), some (.ref Fs), some (.ref KP), some (.ref J), o8, o9, o10] ∧ Bt J H5 Hn ∧ nr = (up.take i).foldl (nearStep ls ms up) (List.replicate ls.length ls.length) ∧ nr.length = ls.length ∧ Nr nr ∧ Hn J = some (.lst (nI nr)))
      ⟨_, _, _, _, rfl, Bt.refl J H5, rfl, List.length_replicate, nr0 ls.length, eJ⟩ (fun i σ Hn hI => by obtain ⟨_, _, _, _, _, b, _⟩ := hI; exact SqL.of (b _ _ UJ eU5)) (fun i y σ Hn hi hy hI => ?_) (fun σ Hn hI => ?_)
    · obtain ⟨o8, o9, o10, nr, rfl, b, en, nl, hN, eJn⟩ := hI
      rw [ulen] at hi hy
      have hq : ∃ q, up[i]? = some q ∧ y = .int (q : Int) := by
        refine ⟨up[i], List.getElem?_eq_getElem hi, ?_⟩
        rw [List.getElem?_map, List.getElem?_reverse (by omega), show up.length - 1 - (up.length - 1 - i) = i by omega, List.getElem?_eq_getElem hi] at hy
        exact (Option.some.inj hy).symm
      obtain ⟨q, hq, rfl⟩ := hq
      have qu : q ∈ up := List.mem_of_getElem? hq
      have ql := upm q qu
      have nx : ∀ nr', nearStep ls ms up nr q = nr' → nr' = (up.take (i + 1)).foldl (nearStep ls ms up) (List.replicate ls.length ls.length) := fun nr' e => by
        rw [← e, List.take_add_one, hq, Option.toList_some, List.foldl_append, ← en]
        rfl
      refine ⟨_, rfl, _, rfl, (q : Int), Fs, _, c2, rfl, rfl, b _ _ FJ eF5, _, rfl, ?_⟩
      by_cases cm : (q : Int) ∈ ms
      · refine LK.ifF (by simp [cm]) ⟨_, _, _, nr, rfl, b, nx nr ?_, nl, hN, eJn⟩
        unfold nearStep
        rw [if_pos cm]
      · refine LK.ifT (by simp [cm]) ?_
        obtain ⟨a, ea⟩ : ∃ a, ks[q]? = some a := ⟨_, List.getElem?_eq_getElem (by omega)⟩
        have ha := b _ _ (kJ ea) (b2 _ _ (kat q a ea))
        refine ⟨_, rfl, _, rfl, KP, _, (q : Int), _, rfl, rfl, SqL.of (b _ _ KJ eK5), atI_nat (v := V.ref a) (by rw [List.getElem?_map, ea]; rfl), a, rfl, ⟨_, SqL.of ha⟩, fun D nD => ?_⟩
        have DJ : D ≠ J := fun z => by subst z; rw [eJn] at nD; cases nD
        have kL := kidsU_len ls ls.length q
        refine lc_list (K := K) (a := a) (xs := nI (kidsU ls ls.length q)) (fun j H' => Same Hn H' ∧ H' D = some (.lst (nI (((kidsU ls ls.length q).take j).filter fun c => decide (c ∈ up)))))
          ⟨same_new nD, upd_same⟩ (fun j H' hj hh => SqL.of (hh.1 _ _ ha)) (fun j y H' hy hh => ⟨rfl, ?_⟩) (fun H' hh => ?_)
        · obtain ⟨sB, eD⟩ := hh
          rw [List.getElem?_map] at hy
          obtain ⟨z, hz, rfl⟩ := Option.map_eq_some_iff.mp hy
          refine ⟨_, rfl, _, rfl, (z : Int), T, _, c, rfl, rfl, sB _ _ (b _ _ TJ eT5), _, rfl, ?_⟩
          have im : ((z : Int) ∈ up.reverse.map fun k : Nat => (k : Int)) ↔ z ∈ up := by rw [memI, List.mem_reverse]
          rw [List.take_add_one, hz, Option.toList_some, List.filter_append]
          by_cases cz : z ∈ up
          · refine LK.ifT (decide_eq_true (im.mpr cz)) ⟨_, rfl, _, eD, ?_, fun b2 o e => ?_, ?_⟩
            · rw [List.length_map]
              have := List.length_filter_le (fun c => decide (c ∈ up)) ((kidsU ls ls.length q).take j)
              rw [List.length_take] at this
              omega
            · rw [upd_ne (ne_of_none e nD)]
              exact sB _ _ e
            · rw [upd_same]
              unfold nI
              rw [List.map_append]
              simp [cz]
          · exact LK.ifF (decide_eq_false fun e => cz (im.mp e)) ⟨sB, by rw [eD]; simp [cz]⟩
        · obtain ⟨sB, eD⟩ := hh
          rw [show (nI (kidsU ls ls.length q)).length = (kidsU ls ls.length q).length from List.length_map _, List.take_length] at eD
          obtain ⟨h0, tl, ht⟩ : ∃ h0 tl, (kidsU ls ls.length q).filter (fun c => decide (c ∈ up)) = h0 :: tl := by
            obtain ⟨j, hj, hp⟩ := up_kid (by rw [hup]; exact qu) cm
            rw [hup] at hj
            have m : j ∈ (kidsU ls ls.length q).filter (fun c => decide (c ∈ up)) := List.mem_filter.mpr ⟨List.mem_filter.mpr ⟨List.mem_range.mpr (upm j hj), decide_eq_true hp⟩, decide_eq_true hj⟩
            cases h : (kidsU ls ls.length q).filter (fun c => decide (c ∈ up)) with
            | nil => rw [h] at m; cases m
            | cons h0 tl => exact ⟨h0, tl, rfl⟩
          have kid : ∀ c ∈ h0 :: tl, q < c ∧ c < ls.length := fun c hc => by
            rw [← ht] at hc
            obtain ⟨h1, _⟩ := List.mem_filter.mp hc
            obtain ⟨h2, h3⟩ := List.mem_filter.mp h1
            have cl := List.mem_range.mp h2
            have := (par c ls[c] (List.getElem?_eq_getElem cl)).2 (q : Int) (by
              have e := of_decide_eq_true h3
              unfold parOf at e
              rwa [List.getElem?_eq_getElem cl] at e)
            omega
          rw [ht] at eD
          have eJ' := sB _ _ eJn
          have b' : Bt J H5 H' := b.trans (Bt.of sB)
          refine ⟨_, rfl, D, _, 0, _, rfl, rfl, SqL.of eD, atI_nat (j := 0) rfl, ?_⟩
          refine ⟨_, rfl, _, rfl, J, _, (q : Int), q, rfl, rfl, eJ', ?_, ?_⟩
          · rw [List.length_map, nl]
            unfold ixN
            rw [if_pos (by omega), if_pos (by omega), Int.toNat_natCast]
          have b3 : Bt J H5 (upd H' J (.lst ((nI nr).set q (.int (h0 : Int))))) := b'.trans Bt.put
          have eJ3 : upd H' J (.lst ((nI nr).set q (.int (h0 : Int)))) J = some (.lst (nI (nr.set q h0))) := by
            rw [upd_same]
            unfold nI
            rw [List.map_set]
          have eD3 : upd H' J (.lst ((nI nr).set q (.int (h0 : Int)))) D = some (.lst (nI (h0 :: tl))) := by
            rw [upd_ne DJ]
            exact eD
          generalize upd H' J (.lst ((nI nr).set q (.int (h0 : Int)))) = H6 at b3 eJ3 eD3
          refine ⟨_, rfl, _, rfl, D, _, rfl, SqL.of eD3, fun W nW => ?_⟩
          have c1 := same_new (o := .lst (cutV (nI (h0 :: tl)) (some 1) none)) nW
          have eW : upd H6 W (.lst (cutV (nI (h0 :: tl)) (some 1) none)) W = some (.lst (nI tl)) := by
            rw [upd_same]
            exact congrArg (fun z => some (HO.lst z)) (cut_one (V.int (h0 : Int)) (nI tl))
          have WJ : W ≠ J := fun z => by subst z; rw [eJ3] at nW; cases nW
          have eJ7 := c1 _ _ eJ3
          have b7 := b3.trans (Bt.of c1)
          generalize upd H6 W (.lst (cutV (nI (h0 :: tl)) (some 1) none)) = H7 at c1 eW eJ7 b7
          refine ⟨W, rfl, ⟨_, SqL.of eW⟩, ?_⟩
          obtain ⟨kh1, kh2⟩ := kid h0 List.mem_cons_self
          refine for_list (K := K) (a := W) (xs := nI tl) (fun j σ Hq => ∃ (o9 : Option V) (nr' : List Nat), σ = [some (.ref x), some (.ref ca), some (.int (ls.length : Int)), some (.ref U), some (.ref T), some (.ref Fs), some (.ref KP), some (.ref J), some (.int (q : Int)), o9, some (.ref D)] ∧ Bt J H7 Hq ∧ nr' = (tl.take j).foldl (meetS q) (nr.set q h0) ∧ nr'.length = ls.length ∧ Nr nr' ∧ (∃ v, nr'[q]? = some v ∧ q < v) ∧ Hq J = some (.lst (nI nr')))
            ⟨_, nr.set q h0, rfl, Bt.refl J H7, rfl, List.length_set.trans nl, hN.set kh1 (by omega), ⟨h0, List.getElem?_set_self (by omega), kh1⟩, eJ7⟩ (fun j σ Hq hj hJ => by obtain ⟨_, _, _, b, _⟩ := hJ; exact SqL.of (b _ _ WJ eW)) (fun j y σ Hq hy hJ => ?_) (fun σ Hq hJ => ?_)
          · obtain ⟨o9, nr', rfl, bq, en', nl', hN', ⟨v, hv, vq⟩, eJq⟩ := hJ
            rw [List.getElem?_map] at hy
            obtain ⟨z, hz, rfl⟩ := Option.map_eq_some_iff.mp hy
            obtain ⟨kz1, kz2⟩ := kid z (List.mem_cons_of_mem _ (List.mem_of_getElem? hz))
            obtain ⟨_, v2⟩ := hN' q v hv
            obtain ⟨m1, m2⟩ := meetD_le hN' (2 * nr'.length + 1) v2 (by omega : z ≤ nr'.length)
            refine ⟨_, rfl, _, rfl, _, rfl, J, _, (q : Int), _, rfl, rfl, SqL.of eJq, atI_nat (v := V.int (v : Int)) (by rw [List.getElem?_map, hv]; rfl), _, rfl, J, nr', v, z, rfl, SqL.of eJq, hN', v2, by omega, ?_⟩
            refine ⟨_, rfl, _, rfl, J, _, (q : Int), q, rfl, rfl, eJq, ?_, ?_⟩
            · rw [List.length_map, nl']
              unfold ixN
              rw [if_pos (by omega), if_pos (by omega), Int.toNat_natCast]
            refine ⟨_, meetS q nr' z, rfl, bq.trans Bt.put, ?_, ?_, ?_, ?_, ?_⟩
            · rw [List.take_add_one, hz, Option.toList_some, List.foldl_append, ← en']
              rfl
            · unfold meetS
              rw [List.length_set]
              exact nl'
            · unfold meetS
              rw [getD_of hv]
              exact hN'.set (by omega) m2
            · refine ⟨_, by unfold meetS; rw [List.getElem?_set_self (by omega)], ?_⟩
              rw [getD_of hv]
              omega
            · rw [upd_same]
              unfold nI meetS
              rw [List.map_set, getD_of hv]
          · obtain ⟨o9, nr', rfl, bq, en', nl', hN', _, eJq⟩ := hJ
            rw [List.length_map, List.take_length] at en'
            refine ⟨_, _, _, nr', rfl, b7.trans bq, nx nr' ?_, nl', hN', eJq⟩
            unfold nearStep
            rw [if_neg cm, ht]
            exact en'.symm
    · obtain ⟨o8, o9, o10, nr, rfl, b, en, nl, hN, eJn⟩ := hI
      rw [ulen, List.take_length] at en
      refine ⟨_, rfl, k J Hn nJH (frame b) ?_⟩
      rw [eJn, en, ← hup]
      rfl
end
end B7
/-! The program: surely. -/
namespace B7
open PySem PySem.Spec PyProof.Rows L2 LK MXo MXi MXp MXr
abbrev sSur : Stmt := top 25
theorem scSur : FnScope ["cloth", "stood", "ran", "many", "near", "sure", "loop", "one", "gone", "rest"] ["cloth", "stood", "ran"] (defScope sSur) := ⟨rfl, rfl, rfl, by decide +kernel, rfl, by decide +kernel, by decide +kernel⟩
/-- k is on the chain that begins with p -/
inductive Rc (nr : List Nat) : Nat → Nat → Prop
  | here {p : Nat} : p < nr.length → Rc nr p p
  | next {p k : Nat} : p < nr.length → Rc nr (nr.getD p 0) k → Rc nr p k
theorem Rc.trans {nr : List Nat} {p q k : Nat} (a : Rc nr p q) (b : Rc nr q k) : Rc nr p k := by
  induction a with
  | here _ => exact b
  | next h _ ih => exact .next h (ih b)
theorem Rc.le {nr : List Nat} (h : Nr nr) {p k : Nat} (a : Rc nr p k) : p ≤ k := by
  induction a with
  | here _ => exact Nat.le_refl _
  | next hp _ ih =>
    obtain ⟨b, _⟩ := h _ _ (List.getElem?_eq_getElem hp)
    rw [getD_of (List.getElem?_eq_getElem hp)] at ih
    omega
def SureP (nr : List Nat) (us : List Int) (k : Nat) : Prop := ∃ u ∈ us, Rc nr u.toNat k
theorem meetS_ok {nr : List Nat} {k c v : Nat} (h : Nr nr) (hv : nr[k]? = some v) (vk : k < v) (hc : c ≤ nr.length) : Nr (meetS k nr c) ∧ (meetS k nr c).length = nr.length ∧ ∃ u, (meetS k nr c)[k]? = some u ∧ k < u := by
  unfold meetS
  rw [getD_of hv]
  obtain ⟨_, v2⟩ := h k v hv
  obtain ⟨m1, m2⟩ := meetD_le h (2 * nr.length + 1) v2 hc
  have kl := (List.getElem?_eq_some_iff.mp hv).1
  exact ⟨h.set (by omega) m2, List.length_set, _, List.getElem?_set_self kl, by omega⟩
theorem foldS_ok {k : Nat} : ∀ (cs : List Nat) {nr : List Nat} {v : Nat}, Nr nr → nr[k]? = some v → k < v → (∀ c ∈ cs, c ≤ nr.length) → Nr (cs.foldl (meetS k) nr) ∧ (cs.foldl (meetS k) nr).length = nr.length
  | [], _, _, h, _, _, _ => ⟨h, rfl⟩
  | c :: cs, nr, v, h, hv, vk, hc => by
    obtain ⟨a, b, u, hu, uk⟩ := meetS_ok h hv vk (hc c List.mem_cons_self)
    obtain ⟨r1, r2⟩ := foldS_ok cs a hu uk fun z hz => by rw [b]; exact hc z (List.mem_cons_of_mem _ hz)
    exact ⟨r1, r2.trans b⟩
theorem step_ok {ls : List Lp} {ms : List Int} {up nr : List Nat} {k : Nat} (par : Par ls) (h : Nr nr) (nl : nr.length = ls.length) (kl : k < ls.length) : Nr (nearStep ls ms up nr k) ∧ (nearStep ls ms up nr k).length = ls.length := by
  unfold nearStep
  split
  · exact ⟨h, nl⟩
  · split
    · exact ⟨h, nl⟩
    · rename_i h0 tl ht
      have kid : ∀ c ∈ h0 :: tl, k < c ∧ c < ls.length := fun c hc => by
        rw [← ht] at hc
        obtain ⟨h1, _⟩ := List.mem_filter.mp hc
        obtain ⟨h2, h3⟩ := List.mem_filter.mp h1
        have cl := List.mem_range.mp h2
        have := (par c ls[c] (List.getElem?_eq_getElem cl)).2 (k : Int) (by
          have e := of_decide_eq_true h3
          unfold parOf at e
          rwa [List.getElem?_eq_getElem cl] at e)
        omega
      obtain ⟨a1, a2⟩ := kid h0 List.mem_cons_self
      obtain ⟨r1, r2⟩ := foldS_ok tl (h.set a1 (by omega)) (List.getElem?_set_self (by omega)) a1 fun c hc => by
        rw [List.length_set]
        have := (kid c (List.mem_cons_of_mem _ hc)).2
        omega
      exact ⟨r1, by rw [r2, List.length_set]; exact nl⟩
theorem folds_ok {ls : List Lp} {ms : List Int} {up : List Nat} (par : Par ls) : ∀ (ks : List Nat) {nr : List Nat}, Nr nr → nr.length = ls.length → (∀ k ∈ ks, k < ls.length) → Nr (ks.foldl (nearStep ls ms up) nr) ∧ (ks.foldl (nearStep ls ms up) nr).length = ls.length
  | [], _, h, nl, _ => ⟨h, nl⟩
  | k :: ks, _, h, nl, hk => by
    obtain ⟨a, b⟩ := step_ok (ms := ms) (up := up) par h nl (hk k List.mem_cons_self)
    exact folds_ok par ks a b fun z hz => hk z (List.mem_cons_of_mem _ hz)
theorem nearD_ok {ls : List Lp} {ms cuts : List Int} (par : Par ls) : Nr (nearD ls ms cuts) ∧ (nearD ls ms cuts).length = ls.length :=
  folds_ok par _ (nr0 _) List.length_replicate fun _ hk => upL_lt (Nat.le_refl _) hk
theorem nat_list : ∀ {ns : List Int}, (∀ z ∈ ns, 0 ≤ z) → ∃ ks : List Nat, ns = ks.map fun k : Nat => (k : Int)
  | [], _ => ⟨[], rfl⟩
  | n :: ns, h => by
    obtain ⟨ks, rfl⟩ := nat_list fun z hz => h z (List.mem_cons_of_mem _ hz)
    obtain ⟨k, rfl⟩ := Int.eq_ofNat_of_zero_le (h n List.mem_cons_self)
    exact ⟨k :: ks, rfl⟩
def spSur (K : PySem.W.Frag) (CC : Addr) : Sp := fun vs H Q _ => ∃ (x ua da : Addr) (ls : List Lp) (ms us ds : List Int), vs = [.ref x, .ref ua, .ref da] ∧ IsC K CC H x ls ms ∧ Thin ls ∧ ms.length ≤ 100 ∧ SqL K H ua (us.map V.int) ∧ SqL K H da (ds.map V.int) ∧ OkFs ls.length us ∧ OkFs ls.length ds ∧ Par ls ∧ ls.length < 64 ∧ fitsD ls ms us ds = true ∧
  ∀ sl : List Nat, sl.Pairwise (· < ·) → (∀ k, k ∈ sl ↔ SureP (nearD ls ms ds) us k) → ∀ (p sa ga ra : Addr) (H' : Hp), H p = none → H sa = none → H ga = none → H ra = none → Same H H' → H' p = some (.tup [.ref sa, .ref ga, .ref ra]) → H' sa = some (.lst (nI sl)) → H' ga = some (.lst (nI (fallD ls ms ds))) →
    H' ra = some (.lst (nI ((List.range ls.length).filter fun k => decide (k ∉ sl ∧ k ∉ fallD ls ms ds)))) → Q (.ref p) H'
section
variable {P : Program} {w : World} {K : PySem.W.Frag} {mg : Str → Option Value} {base : Heap} {CC : Addr}
theorem ok_Sur {f : Addr} {fd : FuncData} (F : Fun K "surely" "surely" sSur f fd) (B : Bl mg) (R : Pr2 P w K mg base CC)
    {f_fits : Addr} {d_fits : FuncData} (G_fits : FnOk P w K mg base CX0 6 f_fits d_fits ["cloth", "stood", "ran"] (spFits K CC)) (g_fits : mg "fits" = some (.ref f_fits)) (k_fits : PySem.W.keepIn K (.ref f_fits) = true) (b_fits : Binds K d_fits ["cloth", "stood", "ran"] [])
    {f_nearest : Addr} {d_nearest : FuncData} (G_nearest : FnOk P w K mg base CX0 6 f_nearest d_nearest ["cloth", "cuts"] (spNea K CC)) (g_nearest : mg "nearest" = some (.ref f_nearest)) (k_nearest : PySem.W.keepIn K (.ref f_nearest) = true) (b_nearest : Binds K d_nearest ["cloth", "cuts"] [])
    {f_run : Addr} {d_run : FuncData} (G_run : FnOk P w K mg base CX0 6 f_run d_run ["cloth", "cuts"] (spRun K CC)) (g_run : mg "run" = some (.ref f_run)) (k_run : PySem.W.keepIn K (.ref f_run) = true) (b_run : Binds K d_run ["cloth", "cuts"] []) : FnOk P w K mg base CX0 7 f fd ["cloth", "stood", "ran"] (spSur K CC) := by
  refine F.ok scSur (fun vs H Q E h => ?_) (fun cdv A outer s H vs Q E hr h => ?_)
  · obtain ⟨x, ua, da, _, _, _, _, rfl, _⟩ := h
    rfl
  · obtain ⟨x, ua, da, ls, ms, us, ds, rfl, ic, thin, lm, hu, hd, oku, okd, par, l64, fit, k⟩ := h
    refine ⟨_, pss_cons (ps_if (pt_not (pt_val (pe_call (E := E0) G_fits (hr.mono (by decide)) rfl g_fits k_fits b_fits .nil pass0 (pa_cons (pv 0) (pa_cons (pv 1) (pa_cons (pv 2) pa_nil)))))) pss_never pss_nil)
      (pss_cons (ps_set (i := 3) scSur.nd rfl (Or.inl rfl) (pe_callB (call_lenO (E := E0) R.aN R.oN (hr.mono (by decide)) R.bN pass0) (by rfl) (B "len" (by decide)) (by decide +kernel) (pa_cons (pv 0) pa_nil)))
      (pss_cons (ps_set (i := 4) scSur.nd rfl (Or.inl rfl) (pe_call (E := E0) G_nearest (hr.mono (by decide)) rfl g_nearest k_nearest b_nearest .nil pass0 (pa_cons (pv 0) (pa_cons (pv 2) pa_nil))))
      (pss_cons (ps_set (i := 5) scSur.nd rfl (Or.inr rfl) (pe_callTy0 (cr_set0w (w := w)) (by rfl) (B "set" (by decide)) (by decide +kernel)))
      (pss_cons (ps_for PassesOwn.never rfl (pi_list (pv 1)) (pg_name (i := 6) scSur.nd rfl (Or.inl rfl)) (pss_cons (ps_set (i := 7) scSur.nd rfl (Or.inl rfl) (pv 6))
      (pss_one (ps_while PassesOwn.never (PW.pt (pw_and (pt_cmpR op_lt (pv 7) (pv 3) (nomark _)) (pw_and1 (pt_cmpR (ninS (w := w)) (pv 7) (pv 5) (by rfl))))) (pss_cons (ps_expr (pe_saddw (w := w) (pv 5) (pa_cons (pv 7) pa_nil)))
      (pss_one (ps_set (i := 7) scSur.nd rfl (Or.inl rfl) (pe_ix ix_list (pv 4) (pv 7) (fun _ _ => rfl)))))))))
      (pss_cons (ps_set (i := 8) scSur.nd rfl (Or.inr rfl) (pe_call (E := E0) G_run (hr.mono (by decide)) rfl g_run k_run b_run .nil pass0 (pa_cons (pv 0) (pa_cons (pv 2) pa_nil))))
      (pss_cons (ps_setLc (i := 9) (own := [("loop", 6)]) (g := gName 6) rfl scSur.nd rfl rfl (sw_true rfl rfl rfl (by decide +kernel)) (pi_range1 (by rfl) (B "range" (by decide)) (pa_cons (pv 3) pa_nil)) (blkOk_by (N := ["cloth", "stood", "ran", "many", "near", "sure", "loop", "one", "gone", "rest"]) (sc := defScope sSur) (by decide +kernel)) (fun _ _ _ _ _ => pg_name (i := 6) scSur.nd rfl (Or.inl rfl)) (fun _ _ _ _ _ => pts_one (PW.pt (pw_and (pt_cmpR (ninS (w := w)) (pv 6) (pv 5) (by rfl)) (pw_and1 (pt_cmpR (ninq (K := K)) (pv 6) (pv 8) (by rfl)))))) (fun _ _ _ _ _ => pv 6))
      (pss_one (ps_ret (pe_tup (pa_cons (pe_callB (cr_sortR (w := w) rfl) (by rfl) (B "sorted" (by decide)) (by decide +kernel) (pa_cons (pv 5) pa_nil)) (pa_cons (pv 8) (pa_cons (pv 9) pa_nil)))))))))))), ?_⟩
    have ty2 : sizeLine = 16777216 := sizeLine_eq
    have sb : scanBound = 4096 := rfl
    refine ⟨_, rfl, _, rfl, _, rfl, x, ua, da, ls, ms, us, ds, rfl, ic, thin, lm, hu, hd, oku, okd, fun H1 s1 => ⟨_, rfl, ?_⟩⟩
    rw [fit]
    refine LK.ifF rfl ?_
    obtain ⟨dx, L0, G0, xs, hx, hL, dl, hG⟩ := ic.same s1
    have xl : xs.length = ls.length := by rw [dps_len dl, List.length_map]
    refine ⟨_, rfl, x, dx, _, rfl, hx, x, dx, L0, _, xs, rfl, hx, R.cc, R.n1, rfl, hL, _, rfl, by omega, by omega, ?_⟩
    rw [xl]
    refine ⟨_, rfl, _, rfl, x, da, ls, ms, ds, rfl, ic.same s1, thin, lm, s1.seq hd, okd, par, fun N H2 nN a2 eN => ?_⟩
    obtain ⟨hNr, nl⟩ := nearD_ok (ms := ms) (cuts := ds) par
    generalize hnr : nearD ls ms ds = nr at eN hNr nl
    have s2 := s1.trans a2
    refine ⟨rfl, fun T nT => ?_⟩
    have a3 := same_new (o := SetO w T (fun _ => false) 0) nT
    have nTH : H T = none := gone s2 nT
    have s3 := s2.trans a3
    have eT := upd_same (H := H2) (a := T) (o := SetO w T (fun _ => false) 0)
    have eN3 := a3 _ _ eN
    have NT : N ≠ T := ne_of_none eN nT
    generalize upd H2 T (SetO w T (fun _ => false) 0) = H3 at a3 s3 eT eN3
    have od : Odd (SetO w T (fun _ => false) 0) := ⟨_, rfl⟩
    have hu3 := s3.seq hu
    refine ⟨_, rfl, ua, rfl, ⟨_, hu3⟩, ?_⟩
    refine for_list (K := K) (a := ua) (xs := us.map V.int) (fun i σ Hn => ∃ (o6 o7 : Option V) (S : Int → Bool), σ = [some (.ref x), some (.ref ua), some (.ref da), some (.int (ls.length : Int)), some (.ref N), some (.ref T), o6, o7, none, none] ∧ Bt T H3 Hn ∧ Hn T = some (SetO w T S (cntS S ls.length)) ∧ (∀ z, S z = true → 0 ≤ z ∧ z < (ls.length : Int)) ∧ ∀ k : Nat, S (k : Int) = true ↔ ∃ u ∈ us.take i, Rc nr u.toNat k)
      ⟨_, _, fun _ => false, rfl, Bt.refl T H3, by rw [eT, cntS_zero], fun z h => Bool.noConfusion h, fun k => by simp⟩ (fun i σ Hn hi hI => by obtain ⟨_, _, _, _, b, _⟩ := hI; exact sqL_bt eT od b hu3) (fun i y σ Hn hy hI => ?_) (fun σ Hn hI => ?_)
    · obtain ⟨o6, o7, S0, rfl, b, eTn, hr0, hS0⟩ := hI
      rw [List.getElem?_map] at hy
      obtain ⟨z, hz, rfl⟩ := Option.map_eq_some_iff.mp hy
      have zr := oku.2 z (List.mem_of_getElem? hz)
      obtain ⟨u, rfl⟩ := Int.eq_ofNat_of_zero_le zr.1
      refine ⟨_, rfl, ?_⟩
      refine ⟨fun m σ Hq => ∃ (p : Nat) (S : Int → Bool), σ = [some (.ref x), some (.ref ua), some (.ref da), some (.int (ls.length : Int)), some (.ref N), some (.ref T), some (.int (u : Int)), some (.int (p : Int)), none, none] ∧ Bt T H3 Hq ∧ Hq T = some (SetO w T S (cntS S ls.length)) ∧ (∀ z, S z = true → 0 ≤ z ∧ z < (ls.length : Int)) ∧ (∀ k : Nat, S (k : Int) = true ↔ (∃ u' ∈ us.take i, Rc nr u'.toNat k) ∨ (Rc nr u k ∧ ¬ Rc nr p k)) ∧ (∀ k, Rc nr p k → Rc nr u k) ∧ ls.length - p = m,
        ⟨_, u, S0, rfl, b, eTn, hr0, fun k => by rw [hS0 k]; exact ⟨.inl, fun h => h.elim id fun h => absurd h.1 h.2⟩, fun k h => h, rfl⟩, ?_⟩
      rintro m σ Hq ⟨p, S, rfl, bq, eTq, hrq, hSq, sub, hm⟩
      have leave : (∀ k, Rc nr p k → ∃ u' ∈ us.take i, Rc nr u'.toNat k) → ∃ (o6 o7 : Option V) (S : Int → Bool), [some (V.ref x), some (.ref ua), some (.ref da), some (.int (ls.length : Int)), some (.ref N), some (.ref T), some (.int (u : Int)), some (.int (p : Int)), none, none] = [some (V.ref x), some (.ref ua), some (.ref da), some (.int (ls.length : Int)), some (.ref N), some (.ref T), o6, o7, none, none] ∧ Bt T H3 Hq ∧ Hq T = some (SetO w T S (cntS S ls.length)) ∧ (∀ z, S z = true → 0 ≤ z ∧ z < (ls.length : Int)) ∧ ∀ k : Nat, S (k : Int) = true ↔ ∃ u ∈ us.take (i + 1), Rc nr u.toNat k := fun h => by
        refine ⟨_, _, S, rfl, bq, eTq, hrq, fun k => ?_⟩
        rw [hSq k, List.take_add_one, hz, Option.toList_some]
        constructor
        · rintro (⟨u', h1, h2⟩ | ⟨h1, _⟩)
          · exact ⟨u', List.mem_append_left _ h1, h2⟩
          · exact ⟨(u : Int), List.mem_append_right _ (List.mem_singleton.mpr rfl), h1⟩
        · rintro ⟨u', h1, h2⟩
          rcases List.mem_append.mp h1 with h1 | h1
          · exact .inl ⟨u', h1, h2⟩
          · rw [List.mem_singleton.mp h1] at h2
            by_cases c : Rc nr p k
            · exact .inl (h k c)
            · exact .inr ⟨h2, c⟩
      refine ⟨_, rfl, _, rfl, _, _, rfl, rfl, _, rfl, ?_⟩
      by_cases c1 : p < ls.length
      · refine LK.ifT (decide_eq_true (by omega)) ⟨_, rfl, _, rfl, (p : Int), T, S, _, rfl, rfl, eTq, _, rfl, ?_⟩
        cases c2 : S (p : Int) with
        | true =>
          refine LK.ifF rfl (leave fun k hk => ?_)
          rcases (hSq p).mp c2 with ⟨u', h1, h2⟩ | ⟨_, h2⟩
          · exact ⟨u', h1, h2.trans hk⟩
          · exact absurd (.here (by omega)) h2
        | false =>
          refine LK.ifT rfl ⟨fun σ' H' => ∃ m', m' < m ∧ ∃ (p : Nat) (S : Int → Bool), σ' = [some (.ref x), some (.ref ua), some (.ref da), some (.int (ls.length : Int)), some (.ref N), some (.ref T), some (.int (u : Int)), some (.int (p : Int)), none, none] ∧ Bt T H3 H' ∧ H' T = some (SetO w T S (cntS S ls.length)) ∧ (∀ z, S z = true → 0 ≤ z ∧ z < (ls.length : Int)) ∧ (∀ k : Nat, S (k : Int) = true ↔ (∃ u' ∈ us.take i, Rc nr u'.toNat k) ∨ (Rc nr u k ∧ ¬ Rc nr p k)) ∧ (∀ k, Rc nr p k → Rc nr u k) ∧ ls.length - p = m', fun σ' H' h => h, ?_⟩
          have cl := cntS_le S ls.length
          have ln := thin.1
          have pn : p < nr.length := by omega
          obtain ⟨v, hv⟩ : ∃ v, nr[p]? = some v := ⟨_, List.getElem?_eq_getElem pn⟩
          obtain ⟨v1, v2⟩ := hNr p v hv
          refine ⟨_, rfl, ⟨T, _, _, rfl, eTq⟩, _, rfl, T, (p : Int), S, _, rfl, rfl, eTq, by omega, ?_⟩
          rw [if_neg (by rw [c2]; decide), ← cntS_add c2 c1]
          have eNq := bq _ _ NT eN3
          refine ⟨_, rfl, _, rfl, N, _, (p : Int), _, rfl, rfl, SqL.of (by rw [upd_ne NT]; exact eNq), atI_nat (v := V.int (v : Int)) (by rw [List.getElem?_map, hv]; rfl), ?_⟩
          refine ⟨_, ?_, v, _, rfl, bq.trans Bt.put, upd_same, fun z hz => ?_, fun k => ?_, fun k hk => sub k (.next pn (by rw [getD_of hv]; exact hk)), rfl⟩
          · omega
          · rcases (Bool.or_eq_true _ _).mp hz with h | h
            · exact hrq z h
            · have := of_decide_eq_true h
              omega
          · rw [Bool.or_eq_true, decide_eq_true_eq, hSq k]
            have up : Rc nr u p := sub p (.here pn)
            constructor
            · rintro ((h | ⟨h1, h2⟩) | h)
              · exact .inl h
              · exact .inr ⟨h1, fun h => h2 (.next pn (by rw [getD_of hv]; exact h))⟩
              · obtain rfl : k = p := by omega
                exact .inr ⟨up, fun h => by have := h.le hNr; omega⟩
            · rintro (h | ⟨h1, h2⟩)
              · exact .inl (.inl h)
              · by_cases kp : k = p
                · exact .inr (by omega)
                · refine .inl (.inr ⟨h1, fun h => ?_⟩)
                  cases h with
                  | here _ => exact kp rfl
                  | next _ h => exact h2 (by rwa [getD_of hv] at h)
      · refine LK.ifF (decide_eq_false (by omega)) (leave fun k hk => ?_)
        cases hk with
        | here h => omega
        | next h _ => omega
    · obtain ⟨o6, o7, S, rfl, b, eTn, hrn, hSn⟩ := hI
      rw [List.length_map, List.take_length] at hSn
      have frame : Same H Hn := fun q o e => b _ _ (ne_of_none e nTH) (s3 _ _ e)
      refine ⟨_, rfl, _, rfl, x, da, ls, ms, ds, rfl, ic.same frame, thin, lm, frame.seq hd, okd, fun G H4 nG a4 eG => ?_⟩
      have s4 := frame.trans a4
      have eT4 := a4 _ _ eTn
      have ln := thin.1
      refine ⟨_, rfl, _, rfl, by omega, by omega, fun J nJ => ?_⟩
      refine lc_range (lo := 0) (n := ls.length) (fun j H' => Same H4 H' ∧ H' J = some (.lst (nI ((List.range j).filter fun k => !S (k : Int) && decide (k ∉ fallD ls ms ds)))))
        ⟨same_new nJ, upd_same⟩ (fun j H' hj hh => ⟨rfl, ?_⟩) (fun H' hh => ?_)
      · obtain ⟨sB, eJ⟩ := hh
        rw [Int.zero_add, filt_more]
        have room : ((List.range j).filter fun k : Nat => !S (k : Int) && decide (k ∉ fallD ls ms ds)).length < 16777216 := by
          have := List.length_filter_le (fun k : Nat => !S (k : Int) && decide (k ∉ fallD ls ms ds)) (List.range j)
          rw [List.length_range] at this
          omega
        refine ⟨_, rfl, _, rfl, (j : Int), T, S, _, rfl, rfl, sB _ _ eT4, _, rfl, ?_⟩
        cases cS : S (j : Int) with
        | true => exact LK.ifF rfl ⟨sB, by rw [eJ]; simp [cS]⟩
        | false =>
          refine LK.ifT rfl ⟨_, rfl, _, rfl, G, _, rfl, .inl (SqL.of (sB _ _ eG)), rfl, flat_nI _, _, rfl, ?_⟩
          rw [inV_nI]
          by_cases cf : j ∈ fallD ls ms ds
          · exact LK.ifF (by simp [cf]) ⟨sB, by rw [eJ]; simp [cf]⟩
          · refine LK.ifT (by simp [cf]) ⟨_, rfl, _, eJ, by rw [List.length_map]; omega, fun b2 o e => ?_, ?_⟩
            · rw [upd_ne (ne_of_none e nJ)]
              exact sB _ _ e
            · rw [upd_same]
              unfold nI
              rw [List.map_append]
              simp [cf, cS]
      · obtain ⟨sB, eJ⟩ := hh
        have eT5 := sB _ _ eT4
        refine ⟨_, rfl, T, S, _, rfl, eT5, by have := cntS_le S ls.length; omega, fun ns q pw mem len nq => ?_⟩
        have s6 := same_new (o := .lst (ns.map V.int)) nq
        have s7 := (s4.trans sB).trans s6
        refine ⟨_, rfl, _, rfl, by show 3 ≤ sizeLine; decide, fun p np => ?_⟩
        have s8 := same_new (o := .tup [.ref q, .ref G, .ref J]) np
        obtain ⟨sl, rfl⟩ := nat_list fun z hz => (hrn z ((mem z).mp hz)).1
        have pws : sl.Pairwise (· < ·) := (List.pairwise_map.mp pw).imp fun h => by omega
        have mems : ∀ k, k ∈ sl ↔ SureP nr us k := fun k => by
          show k ∈ sl ↔ ∃ u ∈ us, Rc nr u.toNat k
          rw [← hSn k, ← mem (k : Int), memI]
        have er : ((List.range ls.length).filter fun k : Nat => !S (k : Int) && decide (k ∉ fallD ls ms ds)) = (List.range ls.length).filter fun k => decide (k ∉ sl ∧ k ∉ fallD ls ms ds) := List.filter_congr fun k _ => by
          rw [Bool.eq_iff_iff, Bool.and_eq_true, Bool.not_eq_true', decide_eq_true_eq, decide_eq_true_eq, mems k, SureP, ← hSn k, Bool.not_eq_true]
        rw [er] at eJ
        rw [← hnr] at mems
        exact k sl pws mems p q G J _ (gone s7 np) (gone (s4.trans sB) nq) (gone frame nG) (gone s4 nJ) (s7.trans s8) upd_same (s8 _ _ (by rw [upd_same, nI_ints])) (s8 _ _ (s6 _ _ (sB _ _ eG))) (s8 _ _ (s6 _ _ eJ))
end
end B7
/-! What stands, what has run: the mathematics of lots that have run. -/
namespace B7
open PySem PySem.Spec PyProof.Rows L2 LK MXo MXi MXp MXr
abbrev cI (ks : List Nat) : List Int := ks.map fun k : Nat => (k : Int)
theorem nI_cI (ks : List Nat) : nI ks = (cI ks).map V.int := nI_ints ks
theorem upL_ge {ls : List Lp} {fs cuts : List Int} : ∀ {m k : Nat}, m ≤ ls.length → k ∈ upL ls fs cuts m → ls.length - m ≤ k
  | 0, k, _, h => absurd h List.not_mem_nil
  | m + 1, k, l, h => by
    unfold upL at h
    split at h
    · rcases List.mem_append.mp h with h | h
      · have := upL_ge (by omega) h
        omega
      · rw [List.mem_singleton.mp h]
        omega
    · have := upL_ge (by omega) h
      omega
theorem upL_desc {ls : List Lp} {fs cuts : List Int} : ∀ {m : Nat}, m ≤ ls.length → (upL ls fs cuts m).Pairwise (fun a b => b < a)
  | 0, _ => List.Pairwise.nil
  | m + 1, l => by
    unfold upL
    split
    · refine List.pairwise_append.mpr ⟨upL_desc (by omega), List.pairwise_singleton _ _, fun a ha b hb => ?_⟩
      have := upL_ge (by omega) ha
      rw [List.mem_singleton.mp hb]
      omega
    · exact upL_desc (by omega)
/-- the loops that stand, ascending -/
def upA (ls : List Lp) (fs cuts : List Int) : List Nat := (upL ls fs cuts ls.length).reverse
theorem upA_asc (ls : List Lp) (fs cuts : List Int) : (upA ls fs cuts).Pairwise (· < ·) := List.pairwise_reverse.mpr (upL_desc (Nat.le_refl _))
theorem upA_mem {ls : List Lp} {fs cuts : List Int} {k : Nat} : k ∈ upA ls fs cuts ↔ k ∈ upL ls fs cuts ls.length := List.mem_reverse
theorem upL_at {ls : List Lp} {fs cuts : List Int} {k : Nat} : ∀ {m : Nat}, m ≤ ls.length → k ∈ upL ls fs cuts m → ∀ {q : Nat}, q ≤ ls.length → ls.length - q ≤ k → k ∈ upL ls fs cuts q
  | 0, _, h, _, _, _ => absurd h List.not_mem_nil
  | m + 1, l, h, q, hq, hk => by
    by_cases c : m + 1 ≤ q
    · have := upL_sub h (q - (m + 1))
      rwa [show m + 1 + (q - (m + 1)) = q by omega] at this
    · have g := h
      unfold upL at h
      split at h
      · rcases List.mem_append.mp h with h | h
        · exact upL_at (by omega) h hq hk
        · have := List.mem_singleton.mp h
          omega
      · exact upL_at (by omega) h hq hk
/-- what is not cut and is held stands -/
theorem up_intro {ls : List Lp} {fs cuts : List Int} {k : Nat} (par : Par ls) (kl : k < ls.length) (nc : (k : Int) ∉ cuts) (h : heldD ls fs cuts (k : Int) = true) : k ∈ upL ls fs cuts ls.length := by
  have e : upL ls fs cuts (ls.length - 1 - k + 1) = upL ls fs cuts (ls.length - 1 - k) ++ [k] := by
    conv => lhs; unfold upL
    rw [show ls.length - 1 - (ls.length - 1 - k) = k by omega]
    refine if_pos ?_
    unfold upB
    unfold heldD at h
    rw [Bool.and_eq_true, Bool.or_eq_true] at *
    refine ⟨decide_eq_true nc, (Bool.or_eq_true _ _).mp ((Bool.or_eq_true _ _).mpr (((Bool.or_eq_true _ _).mp ((Bool.or_eq_true _ _).mpr h)).imp id fun q => ?_))⟩
    obtain ⟨j, hj, hp⟩ := List.any_eq_true.mp q
    have jl := upL_lt (Nat.le_refl _) hj
    have lt := (par j ls[j] (List.getElem?_eq_getElem jl)).2 (k : Int) (by
      have z := of_decide_eq_true hp
      unfold parOf at z
      rwa [List.getElem?_eq_getElem jl] at z)
    exact List.any_eq_true.mpr ⟨j, upL_at (Nat.le_refl _) hj (by omega) (by omega), hp⟩
  have m : k ∈ upL ls fs cuts (ls.length - 1 - k + 1) := by rw [e]; exact List.mem_append_right _ (List.mem_singleton.mpr rfl)
  have := upL_sub m (ls.length - (ls.length - 1 - k + 1))
  rwa [show ls.length - 1 - k + 1 + (ls.length - (ls.length - 1 - k + 1)) = ls.length by omega] at this
/-- what stands is held -/
theorem up_held {ls : List Lp} {fs cuts : List Int} {k : Nat} (h : k ∈ upL ls fs cuts ls.length) : heldD ls fs cuts (k : Int) = true := by
  unfold heldD
  rw [Bool.or_eq_true]
  by_cases c : (k : Int) ∈ fs
  · exact .inl (decide_eq_true c)
  · obtain ⟨j, hj, hp⟩ := up_kid h c
    exact .inr (List.any_eq_true.mpr ⟨j, hj, decide_eq_true hp⟩)
theorem held_sub {ls : List Lp} {fs c1 c2 : List Int} {z : Int} (h : ∀ k, k ∈ upL ls fs c1 ls.length → k ∈ upL ls fs c2 ls.length) (e : heldD ls fs c1 z = true) : heldD ls fs c2 z = true := by
  unfold heldD at e ⊢
  rw [Bool.or_eq_true] at e ⊢
  refine e.imp id fun q => ?_
  obtain ⟨j, hj, hp⟩ := List.any_eq_true.mp q
  exact List.any_eq_true.mpr ⟨j, h j hj, hp⟩
theorem fall_ext {ls : List Lp} {fs c1 c2 : List Int} (h : ∀ k, k ∈ fallD ls fs c1 ↔ k ∈ fallD ls fs c2) : fallD ls fs c1 = fallD ls fs c2 := by
  unfold fallD
  refine List.filter_congr fun k hk => ?_
  have kl := List.mem_range.mp hk
  have z := h k
  rw [fall_mem, fall_mem] at z
  rw [Bool.eq_iff_iff, decide_eq_true_eq, decide_eq_true_eq]
  exact ⟨fun u => (z.mp ⟨kl, u⟩).2, fun u => (z.mpr ⟨kl, u⟩).2⟩
theorem fall_up {ls : List Lp} {fs c1 c2 : List Int} (h : fallD ls fs c1 = fallD ls fs c2) {k : Nat} : k ∈ upL ls fs c1 ls.length ↔ k ∈ upL ls fs c2 ls.length := by
  have z : ∀ {a b : List Int}, fallD ls fs a = fallD ls fs b → k ∈ upL ls fs b ls.length → k ∈ upL ls fs a ls.length := fun {a b} e m => by
    have kl := upL_lt (Nat.le_refl _) m
    have n : k ∉ fallD ls fs a := fun q => by rw [e] at q; exact (fall_mem.mp q).2 m
    exact Classical.byContradiction fun u => n (fall_mem.mpr ⟨kl, u⟩)
  exact ⟨z h.symm, z h⟩
/-- a lot of the same numbers as what has run -/
theorem fall_fix {ls : List Lp} {fs cuts lot : List Int} (h : ∀ k : Nat, k < ls.length → ((k : Int) ∈ lot ↔ k ∈ fallD ls fs cuts)) : fallD ls fs lot = fallD ls fs cuts :=
  fall_ext fun k => ⟨fun m => fall_least (fun j hj hc => (h j hj).mp hc) k m, fun m => fall_least (fun j hj hc => fall_cut hj ((h j hj).mpr (fall_cut hj hc))) k m⟩
theorem fall_asc (ls : List Lp) (fs cuts : List Int) : (fallD ls fs cuts).Pairwise (· < ·) := List.pairwise_lt_range.filter _
theorem cI_asc {ks : List Nat} (h : ks.Pairwise (· < ·)) : (cI ks).Pairwise (· < ·) := List.pairwise_map.mpr (h.imp fun a => by omega)
theorem cI_le {ks : List Nat} (h : ks.Pairwise (· < ·)) : (cI ks).Pairwise (· ≤ ·) := (cI_asc h).imp fun a => by omega
theorem fall_ok (ls : List Lp) (fs cuts : List Int) : OkFs ls.length (cI (fallD ls fs cuts)) := by
  refine ⟨(cI_asc (fall_asc ls fs cuts)).imp fun a => by omega, fun z hz => ?_⟩
  obtain ⟨k, hk, rfl⟩ := List.mem_map.mp hz
  have := (fall_mem.mp hk).1
  omega
theorem up_ok (ls : List Lp) (fs cuts : List Int) : OkFs ls.length (cI (upA ls fs cuts)) := by
  refine ⟨(cI_asc (upA_asc ls fs cuts)).imp fun a => by omega, fun z hz => ?_⟩
  obtain ⟨k, hk, rfl⟩ := List.mem_map.mp hz
  have := upL_lt (Nat.le_refl _) (upA_mem.mp hk)
  omega
theorem OkFs.perm {n : Nat} {xs ys : List Int} (h : OkFs n xs) (p : ys.Perm xs) : OkFs n ys := ⟨p.nodup_iff.mpr h.1, fun z hz => h.2 z (p.mem_iff.mp hz)⟩
theorem srt_id {ks : List Nat} (h : ks.Pairwise (· < ·)) : srt (cI ks) = cI ks := (srt_of (List.Perm.refl _) (cI_le h)).symm
theorem srt_eq {xs : List Int} {ks : List Nat} (p : xs.Perm (cI ks)) (h : ks.Pairwise (· < ·)) : srt xs = cI ks := (srt_of p.symm (cI_le h)).symm
theorem asc_eq : ∀ {xs ys : List Nat}, xs.Pairwise (· < ·) → ys.Pairwise (· < ·) → (∀ k, k ∈ xs ↔ k ∈ ys) → xs = ys := fun {xs ys} hx hy h => by
  have p : xs.Perm ys := (List.perm_ext_iff_of_nodup (hx.imp fun a => by omega) (hy.imp fun a => by omega)).mpr h
  exact List.Perm.eq_of_pairwise (le := fun a b => a ≤ b) (fun a b _ _ h1 h2 => Nat.le_antisymm h1 h2) (hx.imp fun a => Nat.le_of_lt a) (hy.imp fun a => Nat.le_of_lt a) p
/-- a right lot: whether it is all that has run, by its members -/
theorem irl_iff {ls : List Lp} {ms lot : List Int} (ok : OkFs ls.length lot) : irlD ls ms lot = true ↔ ∀ k : Nat, k < ls.length → ((k : Int) ∈ lot ↔ k ∈ fallD ls ms lot) := by
  unfold irlD
  rw [decide_eq_true_eq]
  constructor
  · intro e k kl
    rw [← memI (k := k) (r := fallD ls ms lot), e, (srt_perm lot).mem_iff]
  · intro h
    refine srt_of ?_ (cI_le (fall_asc ls ms lot))
    refine (List.perm_ext_iff_of_nodup (fall_ok ls ms lot).1 ok.1).mpr fun z => ?_
    constructor
    · intro m
      obtain ⟨k, hk, rfl⟩ := List.mem_map.mp m
      exact (h k (fall_mem.mp hk).1).mpr hk
    · intro m
      have r := ok.2 z m
      obtain ⟨k, rfl⟩ := Int.eq_ofNat_of_zero_le r.1
      exact memI.mpr ((h k (by omega)).mp m)
/-- the cuts that must be are enough -/
theorem lc_run {ls : List Lp} {ms lot : List Int} (par : Par ls) (ok : OkFs ls.length lot) (h : irlD ls ms lot = true) : fallD ls ms (lcD ls ms lot) = fallD ls ms lot := by
  have hm := (irl_iff ok).mp h
  have sub : ∀ z ∈ lcD ls ms lot, z ∈ lot := fun z hz => (srt_perm lot).mem_iff.mp (List.mem_filter.mp hz).1
  refine fall_ext fun k => ⟨fun m => fall_least (fun j hj hc => fall_cut hj (sub _ hc)) k m, fun m => ?_⟩
  obtain ⟨kl, _⟩ := fall_mem.mp m
  refine fall_mem.mpr ⟨kl, ?_⟩
  have go : ∀ (d k : Nat), ls.length - k ≤ d → k ∈ fallD ls ms lot → k ∉ upL ls ms (lcD ls ms lot) ls.length := by
    intro d
    induction d with
    | zero => intro k hd m u; have := upL_lt (Nat.le_refl _) u; omega
    | succ d ih =>
      intro k hd m u
      have kl := upL_lt (Nat.le_refl _) u
      have kc := upL_cut u
      have kin := (hm k kl).mpr m
      have nh : heldD ls ms lot (k : Int) ≠ true := fun q => kc (List.mem_filter.mpr ⟨(srt_perm lot).mem_iff.mpr kin, q⟩)
      have nf : (k : Int) ∉ ms := fun q => nh (by unfold heldD; rw [decide_eq_true q]; rfl)
      obtain ⟨j, hj, hp⟩ := up_kid u nf
      have jl := upL_lt (Nat.le_refl _) hj
      have lt := (par j ls[j] (List.getElem?_eq_getElem jl)).2 (k : Int) (by
        unfold parOf at hp
        rwa [List.getElem?_eq_getElem jl] at hp)
      have nu : j ∉ upL ls ms lot ls.length := fun q => nh (by
        unfold heldD
        rw [Bool.or_eq_true]
        exact .inr (List.any_eq_true.mpr ⟨j, q, decide_eq_true hp⟩))
      exact ih j (by omega) (fall_mem.mpr ⟨jl, nu⟩) hj
  exact go _ k (Nat.le_refl _) m
theorem lc_ok {ls : List Lp} {ms lot : List Int} (ok : OkFs ls.length lot) : OkFs ls.length (lcD ls ms lot) := (ok.perm (srt_perm lot)).filt
/-- seen to stand, seen to have run: nothing fits -/
theorem fits_no {ls : List Lp} {ms us ds : List Int} {z : Int} (h1 : z ∈ us) (h2 : z ∈ ds) : fitsD ls ms us ds = false := by
  rw [← Bool.not_eq_true]
  intro f
  have u := of_decide_eq_true (List.all_eq_true.mp f z h1)
  obtain ⟨k, hk, rfl⟩ := List.mem_map.mp u
  exact upL_cut hk h2
theorem meetD_in {nr : List Nat} {S : Nat → Prop} (h : ∀ (i v : Nat), nr[i]? = some v → S v) (h0 : Nr nr) : ∀ (t : Nat) {p q : Nat}, p ≤ nr.length → q ≤ nr.length → S p → S q → S (meetD nr t p q)
  | 0, p, q, _, _, hp, _ => hp
  | t + 1, p, q, pl, ql, hp, hq => by
    rw [meetD]
    by_cases c : p = q
    · rw [if_pos c]
      exact hp
    · rw [if_neg c]
      by_cases c2 : p < q
      · rw [if_pos c2]
        have hv : nr[p]? = some nr[p] := List.getElem?_eq_getElem (by omega)
        rw [getD_of hv]
        exact meetD_in h h0 t (h0 p _ hv).2 ql (h p _ hv) hq
      · rw [if_neg c2]
        have hv : nr[q]? = some nr[q] := List.getElem?_eq_getElem (by omega)
        rw [getD_of hv]
        exact meetD_in h h0 t pl (h0 q _ hv).2 hp (h q _ hv)
/-- all told numbers stand, or are the end -/
def NrIn (S : Nat → Prop) (nr : List Nat) : Prop := ∀ (i v : Nat), nr[i]? = some v → S v
theorem NrIn.set {S : Nat → Prop} {nr : List Nat} (h : NrIn S nr) {k v : Nat} (a : S v) : NrIn S (nr.set k v) := fun i u e => by
  rw [List.getElem?_set] at e
  split at e
  · split at e
    · obtain rfl := Option.some.inj e
      exact a
    · cases e
  · exact h i u e
theorem foldS_in {S : Nat → Prop} {k : Nat} : ∀ (cs : List Nat) {nr : List Nat} {v : Nat}, NrIn S nr → Nr nr → nr[k]? = some v → k < v → (∀ c ∈ cs, c ≤ nr.length ∧ S c) → NrIn S (cs.foldl (meetS k) nr)
  | [], _, _, h, _, _, _, _ => h
  | c :: cs, nr, v, h, h0, hv, vk, hc => by
    obtain ⟨c1, c2⟩ := hc c List.mem_cons_self
    obtain ⟨a, b, u, hu, uk⟩ := meetS_ok h0 hv vk c1
    refine foldS_in cs ?_ a hu uk fun z hz => by rw [b]; exact hc z (List.mem_cons_of_mem _ hz)
    unfold meetS
    rw [getD_of hv]
    exact h.set (meetD_in h h0 _ (h0 k v hv).2 c1 (h k v hv) c2)
theorem folds_in {ls : List Lp} {ms : List Int} {up : List Nat} {S : Nat → Prop} (par : Par ls) (hS : ∀ k ∈ up, S k) : ∀ (ks : List Nat) {nr : List Nat}, NrIn S nr → Nr nr → nr.length = ls.length → (∀ k ∈ ks, k < ls.length) → NrIn S (ks.foldl (nearStep ls ms up) nr)
  | [], _, h, _, _, _ => h
  | k :: ks, nr, h, h0, nl, hk => by
    have kl := hk k List.mem_cons_self
    obtain ⟨a, b⟩ := step_ok (ms := ms) (up := up) par h0 nl kl
    refine folds_in par hS ks ?_ a b fun z hz => hk z (List.mem_cons_of_mem _ hz)
    unfold nearStep
    split
    · exact h
    · split
      · exact h
      · rename_i h0' tl ht
        have kid : ∀ c ∈ h0' :: tl, k < c ∧ c < ls.length ∧ c ∈ up := fun c hc => by
          rw [← ht] at hc
          obtain ⟨h1, h4⟩ := List.mem_filter.mp hc
          obtain ⟨h2, h3⟩ := List.mem_filter.mp h1
          have cl := List.mem_range.mp h2
          have := (par c ls[c] (List.getElem?_eq_getElem cl)).2 (k : Int) (by
            have e := of_decide_eq_true h3
            unfold parOf at e
            rwa [List.getElem?_eq_getElem cl] at e)
          exact ⟨by omega, cl, of_decide_eq_true h4⟩
        obtain ⟨k1, k2, k3⟩ := kid h0' List.mem_cons_self
        refine foldS_in tl (h.set (hS _ k3)) (h0.set k1 (by omega)) (List.getElem?_set_self (by omega)) k1 fun c hc => ?_
        obtain ⟨_, b2, b3⟩ := kid c (List.mem_cons_of_mem _ hc)
        exact ⟨by rw [List.length_set]; omega, hS _ b3⟩
theorem near_in {ls : List Lp} {ms cuts : List Int} (par : Par ls) : NrIn (fun v => v = ls.length ∨ v ∈ upL ls ms cuts ls.length) (nearD ls ms cuts) := by
  refine folds_in par (fun k hk => .inr hk) _ (fun i v e => ?_) (nr0 _) List.length_replicate fun _ hk => upL_lt (Nat.le_refl _) hk
  rw [List.getElem?_replicate] at e
  split at e
  · exact .inl (Option.some.inj e).symm
  · cases e
theorem rc_up {ls : List Lp} {ms cuts : List Int} (par : Par ls) {p k : Nat} (h : Rc (nearD ls ms cuts) p k) : p ∈ upL ls ms cuts ls.length → k ∈ upL ls ms cuts ls.length := by
  induction h with
  | here _ => exact id
  | next hp hr ih =>
    intro _
    have hv : (nearD ls ms cuts)[_]? = some _ := List.getElem?_eq_getElem hp
    rcases near_in par _ _ hv with e | e
    · exfalso
      rw [getD_of hv, e] at hr
      have l := (nearD_ok (ms := ms) (cuts := cuts) par).2
      cases hr with
      | here h => omega
      | next h _ => omega
    · exact ih (by rw [getD_of hv]; exact e)
end B7
/-! The chains of takers: a loop runs by one more cut exactly if that is on its chain. -/
namespace B7
open PySem PySem.Spec PyProof.Rows L2 LK MXo MXi MXp MXr
theorem rc_step {nr : List Nat} {p v k : Nat} (hv : nr[p]? = some v) : Rc nr p k ↔ k = p ∨ Rc nr v k := by
  have pl := (List.getElem?_eq_some_iff.mp hv).1
  constructor
  · intro h
    cases h with
    | here _ => exact .inl rfl
    | next _ h => exact .inr (by rwa [getD_of hv] at h)
  · rintro (rfl | h)
    · exact .here pl
    · exact .next pl (by rwa [getD_of hv])
theorem rc_end {nr : List Nat} {p k : Nat} (h : nr.length ≤ p) : ¬ Rc nr p k := fun r => by
  cases r with
  | here h2 => omega
  | next h2 _ => omega
/-- both chains have just what the chain from their meeting has -/
theorem rc_meet {nr : List Nat} (h : Nr nr) {k : Nat} : ∀ (t : Nat) {p q : Nat}, p ≤ nr.length → q ≤ nr.length → (nr.length - p) + (nr.length - q) < t → ((Rc nr p k ∧ Rc nr q k) ↔ Rc nr (meetD nr t p q) k)
  | 0, _, _, _, _, h3 => absurd h3 (Nat.not_lt_zero _)
  | t + 1, p, q, hp, hq, h3 => by
    rw [meetD]
    by_cases c : p = q
    · subst c
      rw [if_pos rfl]
      exact ⟨And.left, fun r => ⟨r, r⟩⟩
    · rw [if_neg c]
      by_cases c2 : p < q
      · rw [if_pos c2]
        have hv : nr[p]? = some nr[p] := List.getElem?_eq_getElem (by omega)
        obtain ⟨b1, b2⟩ := h p _ hv
        rw [getD_of hv, ← rc_meet h t b2 hq (by omega), rc_step hv]
        refine ⟨fun ⟨a, b⟩ => ⟨a.resolve_left fun e => ?_, b⟩, fun ⟨a, b⟩ => ⟨.inr a, b⟩⟩
        have := b.le h
        omega
      · rw [if_neg c2]
        have hv : nr[q]? = some nr[q] := List.getElem?_eq_getElem (by omega)
        obtain ⟨b1, b2⟩ := h q _ hv
        rw [getD_of hv, ← rc_meet h t hp b2 (by omega), rc_step hv]
        refine ⟨fun ⟨a, b⟩ => ⟨a, b.resolve_left fun e => ?_⟩, fun ⟨a, b⟩ => ⟨a, .inr b⟩⟩
        have := a.le h
        omega
/-- two tables that agree from a number on have the same chains there -/
theorem rc_agree {nr nr' : List Nat} (h : Nr nr) (l : nr'.length = nr.length) {m : Nat} (e : ∀ i, m ≤ i → nr'[i]? = nr[i]?) : ∀ {p k : Nat}, m ≤ p → Rc nr p k → Rc nr' p k := fun {p k} mp r => by
  induction r with
  | here hp => exact .here (by omega)
  | next hp _ ih =>
    have hv : nr[_]? = some _ := List.getElem?_eq_getElem hp
    obtain ⟨b, _⟩ := h _ _ hv
    refine .next (by omega) ?_
    rw [getD_of ((e _ mp).trans hv)]
    rw [getD_of hv] at ih
    exact ih (by omega)
theorem fold_other {k : Nat} : ∀ (cs nr : List Nat) {i : Nat}, i ≠ k → (cs.foldl (meetS k) nr)[i]? = nr[i]?
  | [], _, _, _ => rfl
  | c :: cs, nr, i, n => by
    rw [List.foldl_cons, fold_other cs _ n]
    unfold meetS
    rw [List.getElem?_set_ne n.symm]
/-- what stands at k behind its children's chains -/
theorem fold_rc {k : Nat} : ∀ (cs : List Nat) {nr : List Nat} {v : Nat}, Nr nr → nr[k]? = some v → k < v → (∀ c ∈ cs, k < c ∧ c ≤ nr.length) → ∃ u, (cs.foldl (meetS k) nr)[k]? = some u ∧ k < u ∧ ∀ j, (Rc nr v j ∧ ∀ c ∈ cs, Rc nr c j) ↔ Rc nr u j
  | [], nr, v, h, hv, vk, _ => ⟨v, hv, vk, fun j => ⟨And.left, fun r => ⟨r, fun c hc => absurd hc List.not_mem_nil⟩⟩⟩
  | c :: cs, nr, v, h, hv, vk, hc => by
    obtain ⟨c1, c2⟩ := hc c List.mem_cons_self
    obtain ⟨a, b, u, hu, uk⟩ := meetS_ok h hv vk c2
    have vl := (h k v hv).2
    have kl := (List.getElem?_eq_some_iff.mp hv).1
    have eu : u = meetD nr (2 * nr.length + 1) v c := by
      unfold meetS at hu
      rw [getD_of hv, List.getElem?_set_self kl] at hu
      exact (Option.some.inj hu).symm
    obtain ⟨z, hz, zk, hj⟩ := fold_rc cs a hu uk fun q hq => by rw [b]; exact hc q (List.mem_cons_of_mem _ hq)
    refine ⟨z, hz, zk, fun j => ?_⟩
    have ag : ∀ i, k + 1 ≤ i → (meetS k nr c)[i]? = nr[i]? := fun i hi => by
      unfold meetS
      rw [List.getElem?_set_ne (by omega)]
    have same : ∀ {p : Nat}, k < p → (Rc (meetS k nr c) p j ↔ Rc nr p j) := fun {p} hp => ⟨rc_agree a b.symm (fun i hi => (ag i hi).symm) hp, rc_agree h b ag hp⟩
    rw [← same zk, ← hj j, same uk, eu, ← rc_meet h _ vl c2 (by omega)]
    constructor
    · rintro ⟨r1, r2⟩
      exact ⟨⟨r1, r2 c List.mem_cons_self⟩, fun q hq => (same (hc q (List.mem_cons_of_mem _ hq)).1).mpr (r2 q (List.mem_cons_of_mem _ hq))⟩
    · rintro ⟨⟨r1, r2⟩, r3⟩
      refine ⟨r1, fun q hq => ?_⟩
      rcases List.mem_cons.mp hq with rfl | hq
      · exact r2
      · exact (same (hc q (List.mem_cons_of_mem _ hq)).1).mp (r3 q hq)
theorem step_other {ls : List Lp} {ms : List Int} {up nr : List Nat} {k i : Nat} (n : i ≠ k) : (nearStep ls ms up nr k)[i]? = nr[i]? := by
  unfold nearStep
  split
  · rfl
  · split
    · rfl
    · rw [fold_other _ _ n, List.getElem?_set_ne n.symm]
/-- what one loop's step tells -/
theorem step_rc {ls : List Lp} {ms : List Int} {up nr : List Nat} {k : Nat} (par : Par ls) (h : Nr nr) (nl : nr.length = ls.length) (kl : k < ls.length) (upl : ∀ j ∈ up, j < ls.length) (nm : (k : Int) ∉ ms) (smk : ∃ j ∈ up, (k : Int) ∈ parOf ls j) :
    ∃ v, (nearStep ls ms up nr k)[k]? = some v ∧ k < v ∧ ∀ j, Rc nr v j ↔ ∀ c ∈ up, (k : Int) ∈ parOf ls c → Rc nr c j := by
  have kid : ∀ c, c ∈ (kidsU ls ls.length k).filter (fun c => decide (c ∈ up)) ↔ c ∈ up ∧ (k : Int) ∈ parOf ls c := fun c => by
    unfold kidsU
    rw [List.mem_filter, List.mem_filter, List.mem_range, decide_eq_true_eq, decide_eq_true_eq]
    exact ⟨fun ⟨⟨_, a⟩, b⟩ => ⟨b, a⟩, fun ⟨a, b⟩ => ⟨⟨upl c a, b⟩, a⟩⟩
  have later : ∀ c, (k : Int) ∈ parOf ls c → c < ls.length → k < c := fun c e cl => by
    have := (par c ls[c] (List.getElem?_eq_getElem cl)).2 (k : Int) (by
      unfold parOf at e
      rwa [List.getElem?_eq_getElem cl] at e)
    omega
  unfold nearStep
  rw [if_neg nm]
  split
  · rename_i e
    obtain ⟨j, hj, hp⟩ := smk
    have := (kid j).mpr ⟨hj, hp⟩
    rw [e] at this
    cases this
  · rename_i h0 tl ht
    have kd : ∀ c ∈ h0 :: tl, k < c ∧ c ≤ nr.length := fun c hc => by
      rw [← ht] at hc
      obtain ⟨a, b⟩ := (kid c).mp hc
      have := upl c a
      exact ⟨later c b this, by omega⟩
    obtain ⟨k1, k2⟩ := kd h0 List.mem_cons_self
    have hs : (nr.set k h0)[k]? = Option.some h0 := List.getElem?_set_self (by omega)
    obtain ⟨u, hu, uk, hj⟩ := fold_rc tl (h.set k1 k2) hs k1 fun c hc => by rw [List.length_set]; exact kd c (List.mem_cons_of_mem _ hc)
    refine ⟨u, hu, uk, fun j => ?_⟩
    have same : ∀ {p : Nat}, k < p → (Rc (nr.set k h0) p j ↔ Rc nr p j) := fun {p} hp => ⟨rc_agree (h.set k1 k2) (List.length_set).symm (m := k + 1) (fun i hi => (List.getElem?_set_ne (by omega)).symm) hp, rc_agree h List.length_set (m := k + 1) (fun i hi => List.getElem?_set_ne (by omega)) hp⟩
    rw [← same uk, ← hj j, same k1]
    constructor
    · rintro ⟨r1, r2⟩ c hc hp
      have m := (kid c).mpr ⟨hc, hp⟩
      rw [ht] at m
      rcases List.mem_cons.mp m with rfl | m
      · exact r1
      · exact (same (kd c (List.mem_cons_of_mem _ m)).1).mp (r2 c m)
    · intro r
      have all : ∀ c ∈ h0 :: tl, Rc nr c j := fun c hc => by
        rw [← ht] at hc
        obtain ⟨a, b⟩ := (kid c).mp hc
        exact r c a b
      exact ⟨all h0 List.mem_cons_self, fun c hc => (same (kd c (List.mem_cons_of_mem _ hc)).1).mpr (all c (List.mem_cons_of_mem _ hc))⟩
/-- what the fold over the loops that stand, from the last one down, keeps -/
theorem folds_rc {ls : List Lp} {ms : List Int} {up : List Nat} (par : Par ls) (upl : ∀ j ∈ up, j < ls.length) (why : ∀ k ∈ up, (k : Int) ∉ ms → ∃ j ∈ up, (k : Int) ∈ parOf ls j) : ∀ (ks : List Nat) {nr : List Nat}, Nr nr → nr.length = ls.length → ks.Pairwise (fun a b => b < a) → (∀ k ∈ ks, k ∈ up) →
    (∀ k ∈ up, k ∉ ks → ∃ v, nr[k]? = some v ∧ if (k : Int) ∈ ms then v = ls.length else ∀ j, Rc nr v j ↔ ∀ c ∈ up, (k : Int) ∈ parOf ls c → Rc nr c j) → (∀ k ∈ ks, nr[k]? = some ls.length ∧ ∀ q ∈ up, q ∉ ks → k < q) →
    ∀ k ∈ up, ∃ v, (ks.foldl (nearStep ls ms up) nr)[k]? = some v ∧ if (k : Int) ∈ ms then v = ls.length else ∀ j, Rc (ks.foldl (nearStep ls ms up) nr) v j ↔ ∀ c ∈ up, (k : Int) ∈ parOf ls c → Rc (ks.foldl (nearStep ls ms up) nr) c j
  | [], nr, _, _, _, _, hd, _ => fun k hk => hd k hk List.not_mem_nil
  | q :: ks, nr, h, nl, pw, sub, hd, ht => by
    have qu := sub q List.mem_cons_self
    have ql := upl q qu
    obtain ⟨pq, pw'⟩ := List.pairwise_cons.mp pw
    obtain ⟨a, b⟩ := step_ok (ms := ms) (up := up) par h nl ql
    refine folds_rc par upl why ks a b pw' (fun k hk => sub k (List.mem_cons_of_mem _ hk)) (fun k hk nk => ?_) (fun k hk => ⟨?_, fun z hz nz => ?_⟩)
    · have same : ∀ {p j : Nat}, q < p → (Rc (nearStep ls ms up nr q) p j ↔ Rc nr p j) := fun {p j} hp => ⟨rc_agree a (b.trans nl.symm).symm (m := q + 1) (fun i hi => (step_other (by omega)).symm) hp, rc_agree h (b.trans nl.symm) (m := q + 1) (fun i hi => step_other (by omega)) hp⟩
      have kidq : ∀ c, c ∈ up → (q : Int) ∈ parOf ls c → q < c := fun c hc e => by
        have cl := upl c hc
        have := (par c ls[c] (List.getElem?_eq_getElem cl)).2 (q : Int) (by
          unfold parOf at e
          rwa [List.getElem?_eq_getElem cl] at e)
        omega
      by_cases c : k = q
      · subst c
        by_cases cm : (k : Int) ∈ ms
        · refine ⟨ls.length, ?_, by rw [if_pos cm]⟩
          unfold nearStep
          rw [if_pos cm]
          exact (ht k List.mem_cons_self).1
        · obtain ⟨v, hv, vk, hj⟩ := step_rc par h nl ql upl cm (why k qu cm)
          refine ⟨v, hv, ?_⟩
          rw [if_neg cm]
          intro j
          rw [same vk, hj j]
          exact ⟨fun r c hc hp => (same (kidq c hc hp)).mpr (r c hc hp), fun r c hc hp => (same (kidq c hc hp)).mp (r c hc hp)⟩
      · have nk2 : k ∉ q :: ks := fun m => (List.mem_cons.mp m).elim c nk
        obtain ⟨v, hv, hj⟩ := hd k hk nk2
        have qk := (ht q List.mem_cons_self).2 k hk nk2
        refine ⟨v, by rw [step_other c]; exact hv, ?_⟩
        by_cases cm : (k : Int) ∈ ms
        · rw [if_pos cm] at hj ⊢
          exact hj
        · rw [if_neg cm] at hj ⊢
          intro j
          have kv := (h k v hv).1
          rw [same (by omega), hj j]
          have later : ∀ c, c ∈ up → (k : Int) ∈ parOf ls c → q < c := fun c hc e => by
            have cl := upl c hc
            have := (par c ls[c] (List.getElem?_eq_getElem cl)).2 (k : Int) (by
              unfold parOf at e
              rwa [List.getElem?_eq_getElem cl] at e)
            omega
          exact ⟨fun r c hc hp => (same (later c hc hp)).mpr (r c hc hp), fun r c hc hp => (same (later c hc hp)).mp (r c hc hp)⟩
    · rw [step_other (by have := pq k hk; omega)]
      exact (ht k (List.mem_cons_of_mem _ hk)).1
    · by_cases c : z = q
      · subst c
        exact pq k hk
      · exact (ht k (List.mem_cons_of_mem _ hk)).2 z hz fun m => (List.mem_cons.mp m).elim c nz
/-- the nearest taker's chain: what is on the chains of all children that stand -/
theorem near_rc {ls : List Lp} {ms cuts : List Int} (par : Par ls) {k : Nat} (hk : k ∈ upL ls ms cuts ls.length) : ∃ v, (nearD ls ms cuts)[k]? = some v ∧ if (k : Int) ∈ ms then v = ls.length else ∀ j, Rc (nearD ls ms cuts) v j ↔ ∀ c ∈ upL ls ms cuts ls.length, (k : Int) ∈ parOf ls c → Rc (nearD ls ms cuts) c j := by
  refine folds_rc par (fun j hj => upL_lt (Nat.le_refl _) hj) (fun k hk nm => up_kid hk nm) _ (nr0 _) List.length_replicate (upL_desc (Nat.le_refl _)) (fun k h => h) (fun k h n => absurd h n) (fun k h => ⟨?_, fun q hq nq => absurd hq nq⟩) k hk
  rw [List.getElem?_replicate, if_pos (upL_lt (Nat.le_refl _) h)]
/-- a loop that stands falls by one more cut exactly if this is on its chain -/
theorem rc_taken {ls : List Lp} {ms cuts : List Int} (par : Par ls) {q : Nat} : ∀ (d : Nat) {k : Nat}, ls.length - k ≤ d → k ∈ upL ls ms cuts ls.length → (Rc (nearD ls ms cuts) k q ↔ k ∉ upL ls ms (cuts ++ [(q : Int)]) ls.length)
  | 0, k, hd, hk => by
    have := upL_lt (Nat.le_refl _) hk
    omega
  | d + 1, k, hd, hk => by
    obtain ⟨v, hv, hj⟩ := near_rc par hk
    have kl := upL_lt (Nat.le_refl _) hk
    have later : ∀ c, c ∈ upL ls ms cuts ls.length → (k : Int) ∈ parOf ls c → k < c := fun c hc e => by
      have cl := upL_lt (Nat.le_refl _) hc
      have := (par c ls[c] (List.getElem?_eq_getElem cl)).2 (k : Int) (by
        unfold parOf at e
        rwa [List.getElem?_eq_getElem cl] at e)
      omega
    have mono : ∀ c, c ∈ upL ls ms (cuts ++ [(q : Int)]) ls.length → c ∈ upL ls ms cuts ls.length := fun c hc => upL_mono (n := ls.length) (fun z hz m => upL_cut hz (List.mem_append_left _ m)) (Nat.le_refl _) hc
    rw [rc_step hv]
    constructor
    · rintro (rfl | r) u
      · exact upL_cut u (List.mem_append_right _ (List.mem_singleton.mpr rfl))
      · by_cases cm : (k : Int) ∈ ms
        · rw [if_pos cm] at hj
          exact rc_end (by rw [hj, (nearD_ok par).2]; exact Nat.le_refl _) r
        · rw [if_neg cm] at hj
          obtain ⟨c, hc, hp⟩ := up_kid u cm
          have hc' := mono c hc
          exact (rc_taken par d (by have := later c hc' hp; omega) hc').mp ((hj q).mp r c hc' hp) hc
    · intro u
      by_cases e : q = k
      · exact .inl e
      · right
        have nc : (k : Int) ∉ cuts ++ [(q : Int)] := fun m => by
          rcases List.mem_append.mp m with m | m
          · exact upL_cut hk m
          · have := List.mem_singleton.mp m
            omega
        by_cases cm : (k : Int) ∈ ms
        · exact absurd (up_intro par kl nc (by unfold heldD; rw [decide_eq_true cm]; rfl)) u
        · rw [if_neg cm] at hj
          refine (hj q).mpr fun c hc hp => (rc_taken par d (by have := later c hc hp; omega) hc).mpr fun uc => u (up_intro par kl nc ?_)
          unfold heldD
          rw [Bool.or_eq_true]
          exact .inr (List.any_eq_true.mpr ⟨c, uc, decide_eq_true hp⟩)
end B7
/-! a + b of two instances of one class, by its own __add__. -/
namespace MXs
open PySem PySem.Spec PyProof.Rows L2
structure AddOf (K : PySem.W.Frag) (C g : Addr) : Prop where
  own : PySem.W.findIn K (.ref C) "__add__" = some (some (.ref g))
  isF : PySem.W.isFn K (.ref g) = true
  first : PySem.W.selfFirst K C = true
section
variable {X : Cx} {CX : CXT} {k : Nat} {g C : Addr} {fd : FuncData} {ps : List Str} {sp : Sp} {E : XK}
def rAddO (C : Addr) (sp : Sp) (E : XK) : V → V → Hp → VK → Prop := fun x y H Q => ∃ (a b dx dy : Addr) (fs gs : List (Str × V)), x = .ref a ∧ y = .ref b ∧ H a = some (.ins C dx fs) ∧ H b = some (.ins C dy gs) ∧ sp [.ref a, .ref b] H (fun v H' => (∃ r, v = .ref r) ∧ Q v H') E
theorem op_addO (L : AddOf X.K C g) (F : FnOk X.prog X.w X.K X.mg X.base CX k g fd ps sp) (room : Room k X.A) (hb : Binds X.K fd ps []) (hx : Passes CX X E) : OpR X (binaryOp .Add) (rAddO C sp E) := by
  intro pins s σ H x y u v Q I rx ry want
  rcases want with ⟨a, b, dx, dy, fs, gs, rfl, rfl, ha, hb2, want⟩
  obtain rfl : u = Value.ref a := rx
  obtain rfl : v = Value.ref b := ry
  rcases ins_get I.hok ha with ⟨_, O, _⟩
  rcases ins_get I.hok hb2 with ⟨_, O2, _⟩
  rcases O.look with ⟨_, J, _⟩
  rcases O2.look with ⟨_, J2, _⟩
  rcases I.fr with ⟨_, fr⟩
  have many : ([Value.ref a, Value.ref b] ++ []).length = ps.length := F.len _ _ _ _ want
  refine PySem.W.binop_K fr I.ok.mod.kin J J2.type L.first L.own L.isF (wpAny_call ?_)
  refine codeAny_mono (F.run X.A X.stack s H ⟨[.ref a, .ref b], []⟩ [.ref a, .ref b] [.ref a, .ref b] _ E room I.env0 (hb s [.ref a, .ref b] I.kIn many) (.cons rfl (.cons rfl .nil)) want) fun r s' back => ?_
  match r, back with
  | .error er, back => exact hx pins σ H s er s' I back
  | .ok (.ret w), back =>
    obtain ⟨z, G, I3, rz, ⟨q, rfl⟩, want⟩ := I.after back
    obtain rfl : w = Value.ref q := rz
    exact ⟨.ref q, G, I3, rfl, want⟩
  | .ok .next, back => exact back.elim
  | .ok .brk, back => exact back.elim
  | .ok .cont, back => exact back.elim
end
end MXs
/-! The class: check_loop of right loops, raised, with_fast, without_fast, one + other. -/
namespace B7
open PySem PySem.Spec PyProof.Rows L2 LK MXo MXi MXp MXr MXg MXs
abbrev sCklp : Stmt := top 14
theorem scCklp : FnScope ["loop", "many"] ["loop", "many"] (defScope sCklp) := ⟨rfl, rfl, rfl, by decide +kernel, rfl, by decide +kernel, by decide +kernel⟩
abbrev sRai : Stmt := top 32
theorem scRai : FnScope ["numbers", "many", "number"] ["numbers", "many"] (defScope sRai) := ⟨rfl, rfl, rfl, by decide +kernel, rfl, by decide +kernel, by decide +kernel⟩
abbrev sWf : Stmt := inClass (top 33) 6
theorem scWf : FnScope ["self", "loop", "one"] ["self", "loop"] (defScope sWf) := ⟨rfl, rfl, rfl, by decide +kernel, rfl, by decide +kernel, by decide +kernel⟩
abbrev sWo : Stmt := inClass (top 33) 7
theorem scWo : FnScope ["self", "loop", "one"] ["self", "loop"] (defScope sWo) := ⟨rfl, rfl, rfl, by decide +kernel, rfl, by decide +kernel, by decide +kernel⟩
abbrev sAdd : Stmt := inClass (top 33) 8
theorem scAdd : FnScope ["self", "other", "many", "loops", "thread", "parents"] ["self", "other"] (defScope sAdd) := ⟨rfl, rfl, rfl, by decide +kernel, rfl, by decide +kernel, by decide +kernel⟩
def spOkLoop : Sp := fun vs H Q _ => ∃ (k n : Int), vs = [.int k, .int n] ∧ 0 ≤ k ∧ k < n ∧ ∀ H', Same H H' → Q .non H'
def spRaT (K : PySem.W.Frag) : Sp := fun vs H Q _ => ∃ (a : Addr) (ns : List Int) (n : Int), vs = [.ref a, .int n] ∧ SqT K H a (ns.map V.int) ∧ ns.length ≤ 1000 ∧ ∀ (p : Addr) (H' : Hp), H p = none → Same H H' → H' p = some (.tup ((ns.map fun z => z + n).map V.int)) → Q (.ref p) H'
def spRaL (K : PySem.W.Frag) : Sp := fun vs H Q _ => ∃ (a : Addr) (ns : List Int) (n : Int), vs = [.ref a, .int n] ∧ SqL K H a (ns.map V.int) ∧ ns.length ≤ 1000 ∧ ∀ (p : Addr) (H' : Hp), H p = none → Same H H' → H' p = some (.tup ((ns.map fun z => z + n).map V.int)) → Q (.ref p) H'
/-- right loops -/
def Right (ls : List Lp) : Prop := ∃ ys : List Str, OkLs ys ls ∧ ∀ y ∈ ys, Yn y
theorem Right.five {ls : List Lp} (h : Right ls) : ∀ l ∈ ls, l.2.length ≤ 5 := fun l hl => by
  obtain ⟨ys, ok, _⟩ := h
  obtain ⟨k, hk, rfl⟩ := List.getElem_of_mem hl
  exact (ok k _ (List.getElem?_eq_getElem hk)).2.2.1
theorem Right.par {ls : List Lp} (h : Right ls) : Par ls := fun k l e => by
  obtain ⟨ys, ok, _⟩ := h
  exact ⟨(ok k l e).2.1, (ok k l e).2.2.2⟩
theorem Right.thin {ls : List Lp} (h : Right ls) (ln : ls.length ≤ 100) : Thin ls := ⟨ln, h.five⟩
/-- a loop with raised parents -/
def upLp (n : Nat) (l : Lp) : Lp := (l.1, l.2.map fun z => z + (n : Int))
theorem Right.app {ls ls2 : List Lp} (h : Right ls) (h2 : Right ls2) : Right (ls ++ ls2.map (upLp ls.length)) := by
  obtain ⟨ys, ok, hy⟩ := h
  obtain ⟨zs, ok2, hz⟩ := h2
  refine ⟨ys ++ zs, fun k l e => ?_, fun y hy' => (List.mem_append.mp hy').elim (hy y) (hz y)⟩
  rw [List.getElem?_append] at e
  split at e
  · obtain ⟨a, b⟩ := ok k l e
    exact ⟨List.mem_append_left _ a, b⟩
  · rename_i c
    rw [List.getElem?_map] at e
    obtain ⟨l2, e2, rfl⟩ := Option.map_eq_some_iff.mp e
    obtain ⟨a, b, d, f⟩ := ok2 _ _ e2
    refine ⟨List.mem_append_right _ a, List.pairwise_map.mpr (b.imp fun h => by omega), by show (l2.2.map _).length ≤ 5; rw [List.length_map]; exact d, fun p hp => ?_⟩
    obtain ⟨z, hz2, rfl⟩ := List.mem_map.mp hp
    have := f z hz2
    omega
theorem okfs_app {n m : Nat} {xs ys : List Int} {zs : List Int} (h : OkFs n xs) (h2 : OkFs m ys) {k : Nat} (ek : zs = ys.map fun z => z + (n : Int)) (e : k = n + m) : OkFs k (xs ++ zs) := by
  subst ek e
  refine ⟨List.nodup_append.mpr ⟨h.1, (List.pairwise_map.mpr (h2.1.imp fun a => by omega)), fun a ha b hb e => ?_⟩, fun z hz => ?_⟩
  · obtain ⟨y, hy, rfl⟩ := List.mem_map.mp hb
    have := h.2 a ha
    have := h2.2 y hy
    omega
  · rcases List.mem_append.mp hz with hz | hz
    · have := h.2 z hz
      omega
    · obtain ⟨y, hy, rfl⟩ := List.mem_map.mp hz
      have := h2.2 y hy
      omega
theorem ok_more {n : Nat} {xs : List Int} {z : Int} (h : OkFs n xs) (nz : z ∉ xs) (r : 0 ≤ z ∧ z < (n : Int)) : OkFs n (xs ++ [z]) := by
  refine ⟨List.nodup_append.mpr ⟨h.1, List.pairwise_singleton _ _, fun a ha b hb e => nz (by rw [← List.mem_singleton.mp hb, ← e]; exact ha)⟩, fun y hy => ?_⟩
  rcases List.mem_append.mp hy with hy | hy
  · exact h.2 y hy
  · rw [List.mem_singleton.mp hy]
    exact r
/-- a cloth whose lists are new since H0 -/
def IsN (K : PySem.W.Frag) (CC : Addr) (H0 H : Hp) (x : Addr) (ls : List Lp) (ms : List Int) : Prop := ∃ (dx L G : Addr) (xs : List V), H0 L = none ∧ H0 G = none ∧ H x = some (.ins CC dx [("_loops", .ref L), ("_fast", .ref G)]) ∧ H L = some (.lst xs) ∧ DpAll K H xs (ls.map lpD) ∧ H G = some (.lst (ms.map V.int))
theorem IsN.is {K : PySem.W.Frag} {CC : Addr} {H0 H : Hp} {x : Addr} {ls : List Lp} {ms : List Int} (h : IsN K CC H0 H x ls ms) : IsC K CC H x ls ms := by
  obtain ⟨dx, L, G, xs, _, _, r⟩ := h
  exact ⟨dx, L, G, xs, r⟩
theorem IsN.same {K : PySem.W.Frag} {CC : Addr} {H0 H H' : Hp} {x : Addr} {ls : List Lp} {ms : List Int} (h : IsN K CC H0 H x ls ms) (s : Same H H') : IsN K CC H0 H' x ls ms := by
  obtain ⟨dx, L, G, xs, a, b, c, d, e, f⟩ := h
  exact ⟨dx, L, G, xs, a, b, s _ _ c, s _ _ d, dps_same s e, s _ _ f⟩
theorem IsN.since {K : PySem.W.Frag} {CC : Addr} {H0 H1 H : Hp} {x : Addr} {ls : List Lp} {ms : List Int} (h : IsN K CC H1 H x ls ms) (s : Same H0 H1) : IsN K CC H0 H x ls ms := by
  obtain ⟨dx, L, G, xs, a, b, r⟩ := h
  exact ⟨dx, L, G, xs, gone s a, gone s b, r⟩
def spWf (K : PySem.W.Frag) (CC : Addr) : Sp := fun vs H Q _ => ∃ (x : Addr) (k : Int) (ls : List Lp) (ms : List Int), vs = [.ref x, .int k] ∧ IsC K CC H x ls ms ∧ Right ls ∧ ls.length ≤ 100 ∧ 0 ≤ k ∧ k < (ls.length : Int) ∧ OkFs ls.length ms ∧
  ∀ (q : Addr) (H' : Hp) (ms' : List Int), H q = none → Same H H' → IsN K CC H H' q ls ms' → ms'.Perm (ms.filter (fun z => decide (z ≠ k)) ++ [k]) → Q (.ref q) H'
def spWo (K : PySem.W.Frag) (CC : Addr) : Sp := fun vs H Q _ => ∃ (x : Addr) (k : Int) (ls : List Lp) (ms : List Int), vs = [.ref x, .int k] ∧ IsC K CC H x ls ms ∧ Right ls ∧ ls.length ≤ 100 ∧ 0 ≤ k ∧ k < (ls.length : Int) ∧ OkFs ls.length ms ∧
  ∀ (q : Addr) (H' : Hp) (ms' : List Int), H q = none → Same H H' → IsN K CC H H' q ls ms' → ms'.Perm (ms.filter fun z => decide (z ≠ k)) → Q (.ref q) H'
def spAdd (K : PySem.W.Frag) (CC : Addr) : Sp := fun vs H Q _ => ∃ (x y : Addr) (ls : List Lp) (ms : List Int) (ls2 : List Lp) (ms2 : List Int), vs = [.ref x, .ref y] ∧ IsC K CC H x ls ms ∧ IsC K CC H y ls2 ms2 ∧ Right ls ∧ Right ls2 ∧ ls.length + ls2.length ≤ 60 ∧ ls2.length ≤ 60 ∧ OkFs ls.length ms ∧ OkFs ls2.length ms2 ∧
  ∀ (q : Addr) (H' : Hp) (ms' : List Int), H q = none → Same H H' → IsN K CC H H' q (ls ++ ls2.map (upLp ls.length)) ms' → ms'.Perm (ms ++ ms2.map fun z => z + (ls.length : Int)) → Q (.ref q) H'
section
variable {P : Program} {w : World} {K : PySem.W.Frag} {mg : Str → Option Value} {base : Heap} {CC : Addr}
theorem ok_Cklp {f : Addr} {fd : FuncData} (F : Fun K "check_loop" "check_loop" sCklp f fd) (B : Bl mg)
    {f_is_number : Addr} {d_is_number : FuncData} (G_is_number : FnOk P w K mg base CX0 2 f_is_number d_is_number ["value", "many"] (spNum K)) (g_is_number : mg "is_number" = some (.ref f_is_number)) (k_is_number : PySem.W.keepIn K (.ref f_is_number) = true) (b_is_number : Binds K d_is_number ["value", "many"] []) : FnOk P w K mg base CX0 3 f fd ["loop", "many"] spOkLoop := by
  refine F.ok scCklp (fun vs H Q E h => ?_) (fun cdv A outer s H vs Q E hr h => ?_)
  · obtain ⟨k, n, rfl, _⟩ := h
    rfl
  · obtain ⟨k, n, rfl, k0, k1, q⟩ := h
    refine ⟨_, pss_one (ps_if (pt_not (pt_val (pe_call (E := E0) G_is_number (hr.mono (by decide)) rfl g_is_number k_is_number b_is_number .nil pass0 (pa_cons (pv 0) (pa_cons (pv 1) pa_nil))))) pss_never pss_nil), ?_⟩
    refine ⟨_, rfl, _, rfl, .int k, .int k, n, rfl, .int k, fun H1 s1 => ⟨_, rfl, LK.ifF ?_ (q H1 s1)⟩⟩
    rw [isNumD, decide_eq_true ⟨k0, k1⟩]
    rfl
theorem ok_RaT {f : Addr} {fd : FuncData} (F : Fun K "raised" "raised" sRai f fd) (B : Bl mg) : FnOk P w K mg base CX0 1 f fd ["numbers", "many"] (spRaT K) := by
  refine F.ok scRai (fun vs H Q E h => ?_) (fun cdv A outer s H vs Q E hr h => ?_)
  · obtain ⟨a, ns, n, rfl, _⟩ := h
    rfl
  · obtain ⟨a, ns, n, rfl, ha, ln, k⟩ := h
    refine ⟨_, pss_one (ps_ret (pe_callTy call_tuple_of (by rfl) (B "tuple" (by decide)) (by decide +kernel) (pa_cons (pe_lc (own := [("number", 2)]) (g := gName 2) (tt := tYes) rfl scRai.nd (pi_tup (pv 0)) (blkOk_by (N := ["numbers", "many", "number"]) (sc := defScope sRai) (by decide +kernel)) (fun _ _ _ _ _ => pg_name (i := 2) scRai.nd rfl (Or.inl rfl)) (fun _ _ _ _ _ => pts_nil) (fun _ _ _ _ _ => pe_op op_add (pv 2) (pv 1))) pa_nil))), ?_⟩
    have ty2 : sizeLine = 16777216 := sizeLine_eq
    refine ⟨_, rfl, a, rfl, ⟨_, ha⟩, fun J nJ => ?_⟩
    refine lc_tup (K := K) (a := a) (xs := ns.map V.int) (fun j H' => Same H H' ∧ H' J = some (.lst (((ns.take j).map fun z => z + n).map V.int)))
      ⟨same_new nJ, upd_same⟩ (fun j H' hj hh => same_tup hh.1 ha) (fun j y H' hy hh => ⟨rfl, ?_⟩) (fun H' hh => ?_)
    · obtain ⟨sB, eJ⟩ := hh
      rw [List.getElem?_map] at hy
      obtain ⟨z, hz, rfl⟩ := Option.map_eq_some_iff.mp hy
      refine ⟨_, rfl, _, rfl, _, _, rfl, rfl, _, eJ, ?_, fun b2 o e => ?_, ?_⟩
      · simp only [List.length_map, List.length_take]
        omega
      · rw [upd_ne (ne_of_none e nJ)]
        exact sB _ _ e
      · rw [upd_same, List.take_add_one, hz, Option.toList_some, List.map_append, List.map_append]
        rfl
    · obtain ⟨sB, eJ⟩ := hh
      rw [List.length_map, List.take_length] at eJ
      refine ⟨J, _, rfl, .inl ⟨SqL.of eJ, fun p np => ?_⟩⟩
      have t := same_new (o := .tup ((ns.map fun z => z + n).map V.int)) np
      exact k p _ (gone sB np) (sB.trans t) upd_same
theorem ok_RaL {f : Addr} {fd : FuncData} (F : Fun K "raised" "raised" sRai f fd) (B : Bl mg) : FnOk P w K mg base CX0 1 f fd ["numbers", "many"] (spRaL K) := by
  refine F.ok scRai (fun vs H Q E h => ?_) (fun cdv A outer s H vs Q E hr h => ?_)
  · obtain ⟨a, ns, n, rfl, _⟩ := h
    rfl
  · obtain ⟨a, ns, n, rfl, ha, ln, k⟩ := h
    refine ⟨_, pss_one (ps_ret (pe_callTy call_tuple_of (by rfl) (B "tuple" (by decide)) (by decide +kernel) (pa_cons (pe_lc (own := [("number", 2)]) (g := gName 2) (tt := tYes) rfl scRai.nd (pi_list (pv 0)) (blkOk_by (N := ["numbers", "many", "number"]) (sc := defScope sRai) (by decide +kernel)) (fun _ _ _ _ _ => pg_name (i := 2) scRai.nd rfl (Or.inl rfl)) (fun _ _ _ _ _ => pts_nil) (fun _ _ _ _ _ => pe_op op_add (pv 2) (pv 1))) pa_nil))), ?_⟩
    have ty2 : sizeLine = 16777216 := sizeLine_eq
    refine ⟨_, rfl, a, rfl, ⟨_, ha⟩, fun J nJ => ?_⟩
    refine lc_list (K := K) (a := a) (xs := ns.map V.int) (fun j H' => Same H H' ∧ H' J = some (.lst (((ns.take j).map fun z => z + n).map V.int)))
      ⟨same_new nJ, upd_same⟩ (fun j H' hj hh => hh.1.seq ha) (fun j y H' hy hh => ⟨rfl, ?_⟩) (fun H' hh => ?_)
    · obtain ⟨sB, eJ⟩ := hh
      rw [List.getElem?_map] at hy
      obtain ⟨z, hz, rfl⟩ := Option.map_eq_some_iff.mp hy
      refine ⟨_, rfl, _, rfl, _, _, rfl, rfl, _, eJ, ?_, fun b2 o e => ?_, ?_⟩
      · simp only [List.length_map, List.length_take]
        omega
      · rw [upd_ne (ne_of_none e nJ)]
        exact sB _ _ e
      · rw [upd_same, List.take_add_one, hz, Option.toList_some, List.map_append, List.map_append]
        rfl
    · obtain ⟨sB, eJ⟩ := hh
      rw [List.length_map, List.take_length] at eJ
      refine ⟨J, _, rfl, .inl ⟨SqL.of eJ, fun p np => ?_⟩⟩
      have t := same_new (o := .tup ((ns.map fun z => z + n).map V.int)) np
      exact k p _ (gone sB np) (sB.trans t) upd_same
theorem ok_Wf {f : Addr} {fd : FuncData} (F : Fun K "with_fast" "Cloth.with_fast" sWf f fd) (B : Bl mg) {CF CL : Addr} (C : Cl2 P w K mg base CC CF CL)
    {f_cl : Addr} {d_cl : FuncData} (G_cl : FnOk P w K mg base CX0 3 f_cl d_cl ["loop", "many"] spOkLoop) (g_cl : mg "check_loop" = some (.ref f_cl)) (k_cl : PySem.W.keepIn K (.ref f_cl) = true) (b_cl : Binds K d_cl ["loop", "many"] []) : FnOk P w K mg base CX0 8 f fd ["self", "loop"] (spWf K CC) := by
  refine F.ok scWf (fun vs H Q E h => ?_) (fun cdv A outer s H vs Q E hr h => ?_)
  · obtain ⟨x, k, _, _, rfl, _⟩ := h
    rfl
  · obtain ⟨x, k, ls, ms, rfl, ic, rt, ln, k0, k1, okm, q⟩ := h
    refine ⟨_, pss_cons (ps_expr (pe_call (E := E0) G_cl (hr.mono (by decide)) rfl g_cl k_cl b_cl .nil pass0 (pa_cons (pv 1) (pa_cons (pe_callB call_len_seq (by rfl) (B "len" (by decide)) (by decide +kernel) (pa_cons (pe_fld (pv 0) rfl) pa_nil)) pa_nil))))
      (pss_one (ps_ret (pe_makeS C.mC C.oC (hr.mono (by decide)) rfl C.gC C.bC (fun σ => L2N.passAt none0 σ) (pa_cons (pe_fld (pv 0) rfl) (pa_cons (pe_op op_cat (pe_lc (own := [("one", 2)]) (g := gName 2) rfl scWf.nd (pi_list (pe_fld (pv 0) rfl)) (blkOk_by (N := ["self", "loop", "one"]) (sc := defScope sWf) (by decide +kernel)) (fun _ _ _ _ _ => pg_name (i := 2) scWf.nd rfl (Or.inl rfl)) (fun _ _ _ _ _ => pts_one (pt_cmpR op_ne (pv 2) (pv 1) (nomark _))) (fun _ _ _ _ _ => pv 2)) (pe_lst (pa_cons (pv 1) pa_nil))) pa_nil))))), ?_⟩
    have ty2 : sizeLine = 16777216 := sizeLine_eq
    obtain ⟨dx, L, G, xs, hx, hL, dl, hG⟩ := id ic
    obtain ⟨ys, okl, hy⟩ := rt
    have xl : xs.length = ls.length := by rw [dps_len dl, List.length_map]
    have lm := okm.len
    refine ⟨_, rfl, _, rfl, x, CC, dx, _, _, rfl, hx, C.cc, C.n1, rfl, L, _, rfl, .inl (SqL.of hL), k, xs.length, rfl, k0, by rw [xl]; exact k1, fun H1 s1 => ?_⟩
    refine ⟨_, rfl, x, CC, dx, _, _, rfl, s1 _ _ hx, C.cc, C.n1, rfl, ?_⟩
    refine ⟨_, rfl, x, CC, dx, _, _, rfl, s1 _ _ hx, C.cc, C.n2, rfl, G, rfl, ⟨_, SqL.of (s1 _ _ hG)⟩, fun J nJ => ?_⟩
    refine lc_list (K := K) (a := G) (xs := ms.map V.int) (fun j H' => Same H1 H' ∧ H' J = some (.lst (((ms.take j).filter fun z => decide (z ≠ k)).map V.int)))
      ⟨same_new nJ, upd_same⟩ (fun j H' hj hh => hh.1.seq (SqL.of (s1 _ _ hG))) (fun j y H' hy hh => ⟨rfl, ?_⟩) (fun H2 hh => ?_)
    · obtain ⟨sB, eJ⟩ := hh
      rw [List.getElem?_map] at hy
      obtain ⟨z, hz, rfl⟩ := Option.map_eq_some_iff.mp hy
      refine ⟨_, rfl, _, rfl, rfl, _, rfl, ?_⟩
      rw [List.take_add_one, hz, Option.toList_some, List.filter_append]
      by_cases c : z = k
      · subst c
        exact LK.ifF (by simp) ⟨sB, by rw [eJ]; simp⟩
      · refine LK.ifT (by simp [c]) ⟨_, rfl, _, eJ, ?_, fun b2 o e => ?_, ?_⟩
        · rw [List.length_map]
          have := List.length_filter_le (fun z => decide (z ≠ k)) (ms.take j)
          rw [List.length_take] at this
          omega
        · rw [upd_ne (ne_of_none e nJ)]
          exact sB _ _ e
        · rw [upd_same, List.map_append]
          simp [c]
    · obtain ⟨sB, eJ⟩ := hh
      rw [List.length_map, List.take_length] at eJ
      have okf : OkFs ls.length (ms.filter fun z => decide (z ≠ k)) := okm.filt
      refine ⟨_, rfl, by show 1 ≤ sizeLine; decide, fun M nM => ⟨J, M, _, _, rfl, rfl, same_new nM _ _ eJ, upd_same, ?_, fun W nW => ?_⟩⟩
      · have := okf.len
        simp only [List.length_map, List.length_singleton]
        omega
      have t1 := same_new (o := .lst [V.int k]) nM
      have t2 := t1.trans (same_new (o := .lst ((ms.filter fun z => decide (z ≠ k)).map V.int ++ [V.int k])) nW)
      have s3 := (s1.trans sB).trans t2
      have eW : upd (upd H2 M (.lst [V.int k])) W (.lst ((ms.filter fun z => decide (z ≠ k)).map V.int ++ [V.int k])) W = some (.lst ((ms.filter (fun z => decide (z ≠ k)) ++ [k]).map V.int)) := by rw [upd_same, List.map_append]; rfl
      have ok2 : OkFs ls.length (ms.filter (fun z => decide (z ≠ k)) ++ [k]) := ok_more okf (fun m => of_decide_eq_true (List.mem_filter.mp m).2 rfl) ⟨k0, k1⟩
      generalize upd (upd H2 M (.lst [V.int k])) W (.lst ((ms.filter fun z => decide (z ≠ k)).map V.int ++ [V.int k])) = H3 at s3 eW
      intro x' dx' nx ndx ne
      refine clo_any C.cc C.n1 C.n2 (s3 _ _ hL) (dps_same s3 dl) eW okl hy ok2 ln nx ndx fun H4 ms' L4 G4 xs4 s4 nL4 nG4 ex eL4 dL4 eG4 pm => ⟨rfl, ?_⟩
      exact q x' H4 ms' (gone s3 nx) (s3.trans s4) ⟨dx', L4, G4, xs4, gone s3 nL4, gone s3 nG4, ex, eL4, dL4, eG4⟩ pm
theorem ok_Wo {f : Addr} {fd : FuncData} (F : Fun K "without_fast" "Cloth.without_fast" sWo f fd) (B : Bl mg) {CF CL : Addr} (C : Cl2 P w K mg base CC CF CL)
    {f_cl : Addr} {d_cl : FuncData} (G_cl : FnOk P w K mg base CX0 3 f_cl d_cl ["loop", "many"] spOkLoop) (g_cl : mg "check_loop" = some (.ref f_cl)) (k_cl : PySem.W.keepIn K (.ref f_cl) = true) (b_cl : Binds K d_cl ["loop", "many"] []) : FnOk P w K mg base CX0 8 f fd ["self", "loop"] (spWo K CC) := by
  refine F.ok scWo (fun vs H Q E h => ?_) (fun cdv A outer s H vs Q E hr h => ?_)
  · obtain ⟨x, k, _, _, rfl, _⟩ := h
    rfl
  · obtain ⟨x, k, ls, ms, rfl, ic, rt, ln, k0, k1, okm, q⟩ := h
    refine ⟨_, pss_cons (ps_expr (pe_call (E := E0) G_cl (hr.mono (by decide)) rfl g_cl k_cl b_cl .nil pass0 (pa_cons (pv 1) (pa_cons (pe_callB call_len_seq (by rfl) (B "len" (by decide)) (by decide +kernel) (pa_cons (pe_fld (pv 0) rfl) pa_nil)) pa_nil))))
      (pss_one (ps_ret (pe_makeS C.mC C.oC (hr.mono (by decide)) rfl C.gC C.bC (fun σ => L2N.passAt none0 σ) (pa_cons (pe_fld (pv 0) rfl) (pa_cons (pe_lc (own := [("one", 2)]) (g := gName 2) rfl scWo.nd (pi_list (pe_fld (pv 0) rfl)) (blkOk_by (N := ["self", "loop", "one"]) (sc := defScope sWo) (by decide +kernel)) (fun _ _ _ _ _ => pg_name (i := 2) scWo.nd rfl (Or.inl rfl)) (fun _ _ _ _ _ => pts_one (pt_cmpR op_ne (pv 2) (pv 1) (nomark _))) (fun _ _ _ _ _ => pv 2)) pa_nil))))), ?_⟩
    have ty2 : sizeLine = 16777216 := sizeLine_eq
    obtain ⟨dx, L, G, xs, hx, hL, dl, hG⟩ := id ic
    obtain ⟨ys, okl, hy⟩ := rt
    have xl : xs.length = ls.length := by rw [dps_len dl, List.length_map]
    have lm := okm.len
    refine ⟨_, rfl, _, rfl, x, CC, dx, _, _, rfl, hx, C.cc, C.n1, rfl, L, _, rfl, .inl (SqL.of hL), k, xs.length, rfl, k0, by rw [xl]; exact k1, fun H1 s1 => ?_⟩
    refine ⟨_, rfl, x, CC, dx, _, _, rfl, s1 _ _ hx, C.cc, C.n1, rfl, ?_⟩
    refine ⟨_, rfl, x, CC, dx, _, _, rfl, s1 _ _ hx, C.cc, C.n2, rfl, G, rfl, ⟨_, SqL.of (s1 _ _ hG)⟩, fun J nJ => ?_⟩
    refine lc_list (K := K) (a := G) (xs := ms.map V.int) (fun j H' => Same H1 H' ∧ H' J = some (.lst (((ms.take j).filter fun z => decide (z ≠ k)).map V.int)))
      ⟨same_new nJ, upd_same⟩ (fun j H' hj hh => hh.1.seq (SqL.of (s1 _ _ hG))) (fun j y H' hy hh => ⟨rfl, ?_⟩) (fun H2 hh => ?_)
    · obtain ⟨sB, eJ⟩ := hh
      rw [List.getElem?_map] at hy
      obtain ⟨z, hz, rfl⟩ := Option.map_eq_some_iff.mp hy
      refine ⟨_, rfl, _, rfl, rfl, _, rfl, ?_⟩
      rw [List.take_add_one, hz, Option.toList_some, List.filter_append]
      by_cases c : z = k
      · subst c
        exact LK.ifF (by simp) ⟨sB, by rw [eJ]; simp⟩
      · refine LK.ifT (by simp [c]) ⟨_, rfl, _, eJ, ?_, fun b2 o e => ?_, ?_⟩
        · rw [List.length_map]
          have := List.length_filter_le (fun z => decide (z ≠ k)) (ms.take j)
          rw [List.length_take] at this
          omega
        · rw [upd_ne (ne_of_none e nJ)]
          exact sB _ _ e
        · rw [upd_same, List.map_append]
          simp [c]
    · obtain ⟨sB, eJ⟩ := hh
      rw [List.length_map, List.take_length] at eJ
      have okf : OkFs ls.length (ms.filter fun z => decide (z ≠ k)) := okm.filt
      have s3 := s1.trans sB
      intro x' dx' nx ndx ne
      refine clo_any C.cc C.n1 C.n2 (s3 _ _ hL) (dps_same s3 dl) eJ okl hy okf ln nx ndx fun H4 ms' L4 G4 xs4 s4 nL4 nG4 ex eL4 dL4 eG4 pm => ⟨rfl, ?_⟩
      exact q x' H4 ms' (gone s3 nx) (s3.trans s4) ⟨dx', L4, G4, xs4, gone s3 nL4, gone s3 nG4, ex, eL4, dL4, eG4⟩ pm
theorem ok_Add {f : Addr} {fd : FuncData} (F : Fun K "__add__" "Cloth.__add__" sAdd f fd) (B : Bl mg) {CF CL : Addr} (C : Cl2 P w K mg base CC CF CL) (it : InsTy K CC)
    {f_rt : Addr} {d_rt : FuncData} (G_rt : FnOk P w K mg base CX0 1 f_rt d_rt ["numbers", "many"] (spRaT K)) (g_rt : mg "raised" = some (.ref f_rt)) (k_rt : PySem.W.keepIn K (.ref f_rt) = true) (b_rt : Binds K d_rt ["numbers", "many"] [])
    {f_rl : Addr} {d_rl : FuncData} (G_rl : FnOk P w K mg base CX0 1 f_rl d_rl ["numbers", "many"] (spRaL K)) (g_rl : mg "raised" = some (.ref f_rl)) (k_rl : PySem.W.keepIn K (.ref f_rl) = true) (b_rl : Binds K d_rl ["numbers", "many"] []) : FnOk P w K mg base CX0 8 f fd ["self", "other"] (spAdd K CC) := by
  refine F.ok scAdd (fun vs H Q E h => ?_) (fun cdv A outer s H vs Q E hr h => ?_)
  · obtain ⟨x, y, _, _, _, _, rfl, _⟩ := h
    rfl
  · obtain ⟨x, y, ls, ms, ls2, ms2, rfl, ic, ic2, rt, rt2, ln, ln2, okm, okm2, q⟩ := h
    refine ⟨_, pss_cons (ps_if (pt_not (pt_val (pe_callB call_isi (by rfl) (B "isinstance" (by decide)) (by decide +kernel) (pa_cons (pv 1) (pa_cons (pe_glob rfl C.gC (v := .ref CC) rfl) pa_nil))))) pss_never pss_nil)
      (pss_cons (ps_set (i := 2) scAdd.nd rfl (Or.inr rfl) (pe_callB call_len_seq (by rfl) (B "len" (by decide)) (by decide +kernel) (pa_cons (pe_fld (pv 0) rfl) pa_nil)))
      (pss_cons (ps_setLc (i := 3) (own := [("thread", 4), ("parents", 5)]) (g := gTup K 2 (gCons (gName 4) (gCons (gName 5) gNil))) (tt := tYes) rfl scAdd.nd rfl rfl (sw_true rfl rfl rfl (by decide +kernel)) (pi_list (pe_fld (pv 1) rfl)) (blkOk_by (N := ["self", "other", "many", "loops", "thread", "parents"]) (sc := defScope sAdd) (by decide +kernel)) (fun _ _ _ _ _ => pg_tup rfl (pgs_cons (pg_name (i := 4) scAdd.nd rfl (Or.inl rfl)) (pgs_cons (pg_name (i := 5) scAdd.nd rfl (Or.inl rfl)) pgs_nil))) (fun _ _ _ _ _ => pts_nil) (fun _ _ _ _ _ => pe_tup (pa_cons (pv 4) (pa_cons (pe_call (E := E0) G_rt (hr.mono (by decide)) rfl g_rt k_rt b_rt .nil pass0 (pa_cons (pv 5) (pa_cons (pv 2) pa_nil))) pa_nil))))
      (pss_one (ps_ret (pe_makeS C.mC C.oC (hr.mono (by decide)) rfl C.gC C.bC (fun σ => L2N.passAt none0 σ) (pa_cons (pe_op op_cat (pe_fld (pv 0) rfl) (pv 3)) (pa_cons (pe_op op_cat (pe_fld (pv 0) rfl) (pe_callTy call_list_of (by rfl) (B "list" (by decide)) (by decide +kernel) (pa_cons (pe_call (E := E0) G_rl (hr.mono (by decide)) rfl g_rl k_rl b_rl .nil pass0 (pa_cons (pe_fld (pv 1) rfl) (pa_cons (pv 2) pa_nil))) pa_nil))) pa_nil))))))), ?_⟩
    have ty2 : sizeLine = 16777216 := sizeLine_eq
    obtain ⟨dx, L, G, xs, hx, hL, dl, hG⟩ := id ic
    obtain ⟨dy, L2', G2, xs2, hy, hL2, dl2, hG2⟩ := id ic2
    have xl : xs.length = ls.length := by rw [dps_len dl, List.length_map]
    have xl2 : xs2.length = ls2.length := by rw [dps_len dl2, List.length_map]
    have lm := okm.len
    have lm2 := okm2.len
    have five := rt2.five
    refine ⟨_, rfl, _, _, _, _, true, rfl, .own CC, it.ty hy, it.own, _, rfl, LK.ifF rfl ?_⟩
    refine ⟨_, rfl, x, CC, dx, _, _, rfl, hx, C.cc, C.n1, rfl, L, _, rfl, .inl (SqL.of hL), ?_⟩
    refine ⟨_, rfl, y, CC, dy, _, _, rfl, hy, C.cc, C.n1, rfl, L2', rfl, ⟨_, SqL.of hL2⟩, fun J nJ => ?_⟩
    refine lc_list (K := K) (a := L2') (xs := xs2) (fun j H' => ∃ zs : List V, Same H H' ∧ H' J = some (.lst zs) ∧ DpAll K H' zs (((ls2.take j).map (upLp xs.length)).map lpD))
      ⟨[], same_new nJ, upd_same, .nil⟩ (fun j H' hj hh => by obtain ⟨_, s, _⟩ := hh; exact s.seq (SqL.of hL2)) (fun j v H' hv hh => ?_) (fun H2 hh => ?_)
    · obtain ⟨zs, s, eJ, dz⟩ := hh
      have jl : j < ls2.length := by rw [← xl2]; exact (List.getElem?_eq_some_iff.mp hv).1
      obtain ⟨v1, d1, q1, q2, q3⟩ := dps_at (dps_same s dl2) (i := j) (by rw [List.length_map]; omega)
      obtain rfl : v = v1 := Option.some.inj (hv.symm.trans q1)
      rw [List.getElem?_map] at q2
      obtain ⟨l, hl1, rfl⟩ := Option.map_eq_some_iff.mp q2
      have l5 := five l (List.mem_of_getElem? hl1)
      have zl : zs.length = j := by rw [dps_len dz, List.length_map, List.length_map, List.length_take]; omega
      cases q3 with
      | @tup t0 _ _ st da =>
        cases da with
        | cons d1 da =>
          cases d1
          cases da with
          | cons d2 dn =>
            cases dn
            cases d2 with
            | @tup pt _ _ st2 da2 =>
              have ex := dp_ints da2
              subst ex
              refine ⟨t0, _, rfl, st, rfl, _, _, rfl, _, _, rfl, rfl, rfl, ?_⟩
              refine ⟨_, rfl, _, rfl, _, rfl, pt, l.2, (xs.length : Int), rfl, st2, by omega, fun rp H3 nrp s3 erp => ⟨by show 2 ≤ sizeLine; decide, fun tp ntp => ?_⟩⟩
              have t1 := same_new (o := .tup [.str l.1, .ref rp]) ntp
              have s4 := s3.trans t1
              refine ⟨_, s4 _ _ eJ, by rw [zl]; omega, zs ++ [.ref tp], fun b o e => ?_, upd_same, ?_⟩
              · rw [upd_ne (ne_of_none e nJ)]
                exact s4 _ _ (s _ _ e)
              · rw [List.take_add_one, hl1, Option.toList_some, List.map_append, List.map_append]
                have old := lps_tk (Tk.own (o := .lst (zs ++ [.ref tp])) (s4 _ _ eJ)) (dps_same s4 dz)
                have f1 : upd (upd H3 tp (.tup [.str l.1, .ref rp])) J (.lst (zs ++ [.ref tp])) tp = some (.tup [.str l.1, .ref rp]) := by
                  rw [upd_ne (fun e => by rw [e] at ntp; rw [s3 _ _ eJ] at ntp; cases ntp)]
                  exact upd_same
                have f2 : upd (upd H3 tp (.tup [.str l.1, .ref rp])) J (.lst (zs ++ [.ref tp])) rp = some (.tup ((l.2.map fun z => z + (xs.length : Int)).map V.int)) := by
                  rw [upd_ne (fun e => by rw [e] at nrp; rw [eJ] at nrp; cases nrp), upd_ne (ne_of_none erp ntp)]
                  exact erp
                exact dps_app old (.cons (.tup (.inl (.inl f1)) (.cons (.str _) (.cons (.tup (.inl (.inl f2)) (dp_ints_of _)) .nil))) .nil)
    · obtain ⟨zs, s, eJ, dz⟩ := hh
      rw [xl2, List.take_length] at dz
      have zl : zs.length = ls2.length := by rw [dps_len dz, List.length_map, List.length_map]
      refine ⟨_, rfl, x, CC, dx, _, _, rfl, s _ _ hx, C.cc, C.n1, rfl, _, rfl, L, J, _, _, rfl, rfl, s _ _ hL, eJ, by omega, fun W nW => ?_⟩
      have t1 := same_new (o := .lst (xs ++ zs)) nW
      have s1 := s.trans t1
      refine ⟨_, rfl, x, CC, dx, _, _, rfl, s1 _ _ hx, C.cc, C.n2, rfl, _, rfl, y, CC, dy, _, _, rfl, s1 _ _ hy, C.cc, C.n2, rfl, _, rfl, G2, ms2, (xs.length : Int), rfl, SqL.of (s1 _ _ hG2), by omega, fun rp H3 nrp s3 erp => ?_⟩
      have s13 := s1.trans s3
      refine ⟨rp, _, rfl, .inr (SqT.of erp), fun M nM => ?_⟩
      have t2 := same_new (o := .lst ((ms2.map fun z => z + (xs.length : Int)).map V.int)) nM
      refine ⟨G, M, _, _, rfl, rfl, t2 _ _ (s13 _ _ hG), upd_same, by simp only [List.length_map]; omega, fun N nN => ?_⟩
      have t3 := t2.trans (same_new (o := .lst (ms.map V.int ++ (ms2.map fun z => z + (xs.length : Int)).map V.int)) nN)
      have s4 := s13.trans t3
      have s24 := (t1.trans s3).trans t3
      have s34 := s3.trans t3
      have eW := s34 _ _ (upd_same (H := H2) (a := W) (o := .lst (xs ++ zs)))
      have eN : upd (upd H3 M (.lst ((ms2.map fun z => z + (xs.length : Int)).map V.int))) N (.lst (ms.map V.int ++ (ms2.map fun z => z + (xs.length : Int)).map V.int)) N = some (.lst ((ms ++ ms2.map fun z => z + (ls.length : Int)).map V.int)) := by rw [upd_same, List.map_append, xl]
      rw [xl] at dz
      have dW : DpAll K (upd (upd H3 M (.lst ((ms2.map fun z => z + (xs.length : Int)).map V.int))) N (.lst (ms.map V.int ++ (ms2.map fun z => z + (xs.length : Int)).map V.int))) (xs ++ zs) ((ls ++ ls2.map (upLp ls.length)).map lpD) := by
        rw [List.map_append]
        exact dps_app (dps_same s4 dl) (dps_same s24 dz)
      obtain ⟨ys3, okl3, hy3⟩ := rt.app rt2
      generalize upd (upd H3 M (.lst ((ms2.map fun z => z + (xs.length : Int)).map V.int))) N (.lst (ms.map V.int ++ (ms2.map fun z => z + (xs.length : Int)).map V.int)) = H5 at s4 eW eN dW
      intro x' dx' nx ndx ne
      refine clo_any C.cc C.n1 C.n2 eW dW eN okl3 hy3 (okfs_app okm okm2 rfl (by rw [List.length_append, List.length_map])) (by rw [List.length_append, List.length_map]; omega) nx ndx fun H6 ms' L4 G4 xs4 s6 nL4 nG4 ex eL4 dL4 eG4 pm => ⟨rfl, ?_⟩
      exact q x' H6 ms' (gone s4 nx) (s4.trans s6) ⟨dx', L4, G4, xs4, gone s4 nL4, gone s4 nG4, ex, eL4, dL4, eG4⟩ pm
end
end B7
/-! _law_made: a cloth constructed, or made of another one. -/
namespace B7
open PySem PySem.Spec PyProof.Rows L2 LK MXo MXi MXp MXr MXg MXs
abbrev sMkd : Stmt := top 50
theorem scMkd : FnScope ["creel", "here", "way", "count", "free_ones", "elder", "k"] ["creel", "here"] (defScope sMkd) := ⟨rfl, rfl, rfl, by decide +kernel, rfl, by decide +kernel, by decide +kernel⟩
/-- the lists of xs but the first; the last one -/
theorem cut_tail {fs : List Int} (h : fs ≠ []) : cutV (fs.map V.int) (some 1) none = fs.tail.map V.int := by
  obtain ⟨f, r, rfl⟩ := List.exists_cons_of_ne_nil h
  unfold cutV
  have e : HT.sIx ((f :: r).map V.int).length 0 (some 1) = 1 := by
    unfold HT.sIx
    simp
  have e2 : HT.sIx ((f :: r).map V.int).length ((f :: r).map V.int).length none = ((f :: r).map V.int).length := rfl
  rw [e, e2, List.map_cons, List.drop_one, List.tail_cons, List.length_cons, Nat.add_sub_cancel, List.take_length]
  rfl
theorem cut_lastN {ks : List Nat} (h : ks ≠ []) : ∃ z ∈ ks, cutV (nI ks) (some (-1)) none = [V.int (z : Int)] ∧ atI (nI ks) (-1) = some (.int (z : Int)) := by
  obtain ⟨ys, z, rfl⟩ : ∃ ys z, ks = ys ++ [z] := ⟨_, _, (List.dropLast_concat_getLast h).symm⟩
  have en : nI (ys ++ [z]) = nI ys ++ [V.int (z : Int)] := by unfold nI; rw [List.map_append]; rfl
  refine ⟨z, List.mem_append_right _ (List.mem_singleton.mpr rfl), ?_, ?_⟩
  · unfold cutV
    have e : HT.sIx (nI (ys ++ [z])).length 0 (some (-1)) = (nI ys).length := by
      unfold HT.sIx
      rw [en, List.length_append, List.length_singleton]
      simp
      omega
    rw [e, en, List.drop_left, List.take_of_length_le]
    show _ ≤ (nI ys ++ [V.int (z : Int)]).length - _
    rw [List.length_append]
    omega
  · unfold atI ixN
    rw [en, List.length_append, List.length_singleton, if_neg (by decide), if_pos (by omega)]
    rw [show ((-1 : Int) + (((nI ys).length + 1 : Nat) : Int)).toNat = (nI ys).length by omega]
    simp
theorem stR {t : TS} {D : Ends} {σ : L2.St} {H : Hp} (R : L2.St → Hp → Prop) (h : ∀ nx' : L2.St → Hp → Prop, (∀ σ' H', R σ' H' → nx' σ' H') → t { D with nx := nx' } σ H) (q : ∀ σ' H', R σ' H' → D.nx σ' H') : t D σ H := h D.nx q
theorem add_zero (ms : List Int) : (ms.map fun z => z + (([] : List Lp).length : Int)) = ms := by simp
theorem up_zero (ls : List Lp) : ls.map (upLp ([] : List Lp).length) = ls := by
  have : upLp ([] : List Lp).length = id := by
    funext l
    unfold upLp
    rw [add_zero]
    rfl
  rw [this, List.map_id]
def spAhead (K : PySem.W.Frag) (CC : Addr) : Sp := fun vs H Q _ => ∃ (x : Addr) (ls : List Lp) (ms : List Int), vs = [.ref x] ∧ IsC K CC H x ls ms ∧ Right ls ∧ ls.length ≤ 60 ∧ OkFs ls.length ms ∧ ∀ H', Same H H' → Q .non H'
def spMkd (K : PySem.W.Frag) (CC : Addr) : Sp := fun vs H Q _ => ∃ (c ha la fa : Addr) (xs : List V) (ls : List Lp) (fs : List Int) (B : Nat), vs = [.ref c, .ref ha] ∧ H ha = some (.tup [.ref la, .ref fa]) ∧ H la = some (.lst xs) ∧ DpAll K H xs (ls.map lpD) ∧ H fa = some (.lst (fs.map V.int)) ∧ la ≠ c ∧ fa ≠ c ∧ Right ls ∧ ls.length ≤ 60 ∧ OkFs ls.length fs ∧ CR H c B ∧ B + 10 < 10 ^ 12 ∧
  ∀ (q : Addr) (H' : Hp) (ms : List Int), H q = none → IsN K CC H H' q ls ms → ms.Perm fs → CR H' c (B + 10) → Bt c H H' → Q (.ref q) H'
theorem IsN.old' {K : PySem.W.Frag} {CC c : Addr} {H H1 Hn H' : Hp} {x : Addr} {ls : List Lp} {ms : List Int} {B : Nat} (h : IsN K CC Hn H' x ls ms) (_hc : CR H c B) (_b : Bt c H H1) (nn : ∀ {p : Addr}, H1 p = none ↔ H p = none) (s : Same H1 Hn) : IsN K CC H H' x ls ms := by
  obtain ⟨dx, L, G, xs, a, b, r⟩ := h
  exact ⟨dx, L, G, xs, nn.mp (gone s a), nn.mp (gone s b), r⟩
section
variable {P : Program} {w : World} {K : PySem.W.Frag} {mg : Str → Option Value} {base : Heap} {CC : Addr}
theorem ok_Mkd {f : Addr} {fd : FuncData} (F : Fun K "_law_made" "_law_made" sMkd f fd) (B : Bl mg) {CF CL : Addr} (R : Pr2 P w K mg base CC) (C : Cl2 P w K mg base CC CF CL)
    {f_with_fast : Addr} {d_with_fast : FuncData} (G_with_fast : FnOk P w K mg base CX0 8 f_with_fast d_with_fast ["self", "loop"] (spWf K CC)) (M_with_fast : Meth K CC "with_fast" f_with_fast) (b_with_fast : Binds K d_with_fast ["self", "loop"] [])
    {f_without_fast : Addr} {d_without_fast : FuncData} (G_without_fast : FnOk P w K mg base CX0 8 f_without_fast d_without_fast ["self", "loop"] (spWo K CC)) (M_without_fast : Meth K CC "without_fast" f_without_fast) (b_without_fast : Binds K d_without_fast ["self", "loop"] [])
    {f_add : Addr} {d_add : FuncData} (G_add : FnOk P w K mg base CX0 8 f_add d_add ["self", "other"] (spAdd K CC)) (A_add : AddOf K CC f_add) (b_add : Binds K d_add ["self", "other"] [])
    {f__law_ply : Addr} {d__law_ply : FuncData} (G__law_ply : FnOk P w K mg base CX0 1 f__law_ply d__law_ply ["creel", "span"] spPly) (g__law_ply : mg "_law_ply" = some (.ref f__law_ply)) (k__law_ply : PySem.W.keepIn K (.ref f__law_ply) = true) (b__law_ply : Binds K d__law_ply ["creel", "span"] [])
    {f__law_ahead : Addr} {d__law_ahead : FuncData} (G__law_ahead : FnOk P w K mg base CX0 9 f__law_ahead d__law_ahead ["elder"] (spAhead K CC)) (g__law_ahead : mg "_law_ahead" = some (.ref f__law_ahead)) (k__law_ahead : PySem.W.keepIn K (.ref f__law_ahead) = true) (b__law_ahead : Binds K d__law_ahead ["elder"] []) : FnOk P w K mg base CX0 10 f fd ["creel", "here"] (spMkd K CC) := by
  refine F.ok scMkd (fun vs H Q E h => ?_) (fun cdv A outer s H vs Q E hr h => ?_)
  · obtain ⟨c, ha, _, _, _, _, _, _, rfl, _⟩ := h
    rfl
  · obtain ⟨c, ha, la, fa, xs, ls, fs, bb, rfl, hh, hl, dl, hf, lc, fc, rt, ln, okf, hc, hb, k⟩ := h
    refine ⟨_, pss_cons (ps_par (i := 2) (j := 3) rfl scMkd.nd rfl rfl (by decide) rfl rfl (pa_cons (pe_call (E := E0) G__law_ply (hr.mono (by decide)) rfl g__law_ply k__law_ply b__law_ply .nil pass0 (pa_cons (pv 0) (pa_cons pe_int pa_nil))) (pa_cons (pe_callB call_len_seq (by rfl) (B "len" (by decide)) (by decide +kernel) (pa_cons (pe_ix (ixt (K := K)) (pv 1) pe_int (fun _ _ => rfl)) pa_nil)) pa_nil)) (by rfl))
      (pss_cons (ps_setLc (i := 4) (own := [("k", 6)]) (g := gName 6) rfl scMkd.nd rfl rfl (sw_true rfl rfl rfl (by decide +kernel)) (pi_range1 (by rfl) (B "range" (by decide)) (pa_cons (pv 3) pa_nil)) (blkOk_by (N := ["creel", "here", "way", "count", "free_ones", "elder", "k"]) (sc := defScope sMkd) (by decide +kernel)) (fun _ _ _ _ _ => pg_name (i := 6) scMkd.nd rfl (Or.inl rfl)) (fun _ _ _ _ _ => pts_one (pt_cmpR (ninq (K := K)) (pv 6) (pe_ix (ixt (K := K)) (pv 1) pe_int (fun _ _ => rfl)) (by rfl))) (fun _ _ _ _ _ => pv 6))
      (pss_cons (ps_set (i := 5) scMkd.nd rfl (Or.inl rfl) (pe_makeS C.mC C.oC (hr.mono (by decide)) rfl C.gC C.bC (fun σ => L2N.passAt none0 σ) (pa_cons (pe_callTy call_list_of (by rfl) (B "list" (by decide)) (by decide +kernel) (pa_cons (pe_ix (ixt (K := K)) (pv 1) pe_int (fun _ _ => rfl)) pa_nil)) (pa_cons (pe_callTy call_list_of (by rfl) (B "list" (by decide)) (by decide +kernel) (pa_cons (pe_ix (ixt (K := K)) (pv 1) pe_int (fun _ _ => rfl)) pa_nil)) pa_nil))))
      (pss_cons (ps_if (PW.pt (pw_and (pt_cmpR op_eq (pv 2) pe_int (nomark _)) (pw_and1 (pt_cmpR (op_neD hr.units) (pe_ix (ixt (K := K)) (pv 1) pe_int (fun _ _ => rfl)) (pe_lst pa_nil) (nomark _))))) (pss_one (ps_set (i := 5) scMkd.nd rfl (Or.inl rfl) (pe_makeS C.mC C.oC (hr.mono (by decide)) rfl C.gC C.bC (fun σ => L2N.passAt none0 σ) (pa_cons (pe_callTy call_list_of (by rfl) (B "list" (by decide)) (by decide +kernel) (pa_cons (pe_ix (ixt (K := K)) (pv 1) pe_int (fun _ _ => rfl)) pa_nil)) (pa_cons (pe_slice sl_list (pe_ix (ixt (K := K)) (pv 1) pe_int (fun _ _ => rfl)) (po_some pe_int) po_none) pa_nil))))) pss_nil)
      (pss_cons (ps_if (PW.pt (pw_and (pt_cmpR op_eq (pv 2) pe_int (nomark _)) (pw_and1 (pt_cmpR (op_neD hr.units) (pv 4) (pe_lst pa_nil) (nomark _))))) (pss_one (ps_set (i := 5) scMkd.nd rfl (Or.inl rfl) (pe_makeS C.mC C.oC (hr.mono (by decide)) rfl C.gC C.bC (fun σ => L2N.passAt none0 σ) (pa_cons (pe_callTy call_list_of (by rfl) (B "list" (by decide)) (by decide +kernel) (pa_cons (pe_ix (ixt (K := K)) (pv 1) pe_int (fun _ _ => rfl)) pa_nil)) (pa_cons (pe_op op_cat (pe_ix (ixt (K := K)) (pv 1) pe_int (fun _ _ => rfl)) (pe_slice sl_list (pv 4) (po_some (pe_un un_neg pe_int)) po_none)) pa_nil))))) pss_nil)
      (pss_cons (ps_expr (pe_call (E := E0) G__law_ahead (hr.mono (by decide)) rfl g__law_ahead k__law_ahead b__law_ahead .nil pass0 (pa_cons (pv 5) pa_nil)))
      (pss_cons (ps_if (PW.pt (pw_and (pt_cmpR op_eq (pv 2) pe_int (nomark _)) (pw_and1 (pt_cmpR (op_neD hr.units) (pe_ix (ixt (K := K)) (pv 1) pe_int (fun _ _ => rfl)) (pe_lst pa_nil) (nomark _))))) (pss_one (ps_ret (pe_meth (E := E0) (pv 5) R.cc M_with_fast G_with_fast (hr.mono (by decide)) b_with_fast .nil pass0 (pa_cons (pe_ix ix_list (pe_ix (ixt (K := K)) (pv 1) pe_int (fun _ _ => rfl)) pe_int (fun _ _ => rfl)) pa_nil)))) pss_nil)
      (pss_cons (ps_if (PW.pt (pw_and (pt_cmpR op_eq (pv 2) pe_int (nomark _)) (pw_and1 (pt_cmpR (op_neD hr.units) (pv 4) (pe_lst pa_nil) (nomark _))))) (pss_one (ps_ret (pe_meth (E := E0) (pv 5) R.cc M_without_fast G_without_fast (hr.mono (by decide)) b_without_fast .nil pass0 (pa_cons (pe_ix ix_list (pv 4) (pe_un un_neg pe_int) (fun _ _ => rfl)) pa_nil)))) pss_nil)
      (pss_cons (ps_if (pt_cmpR op_eq (pv 2) pe_int (nomark _)) (pss_one (ps_ret (pe_op (op_addO A_add G_add (hr.mono (by decide)) b_add pass0) (pe_makeS C.mC C.oC (hr.mono (by decide)) rfl C.gC C.bC (fun σ => L2N.passAt none0 σ) (pa_cons (pe_lst pa_nil) (pa_cons (pe_lst pa_nil) pa_nil))) (pv 5)))) pss_nil)
      (pss_one (ps_ret (pe_ifExp (pt_cmpR op_eq (pv 2) pe_int (nomark _)) (pe_op (op_addO A_add G_add (hr.mono (by decide)) b_add pass0) (pv 5) (pe_makeS C.mC C.oC (hr.mono (by decide)) rfl C.gC C.bC (fun σ => L2N.passAt none0 σ) (pa_cons (pe_lst pa_nil) (pa_cons (pe_lst pa_nil) pa_nil)))) (pv 5)))))))))))), ?_⟩
    have ty2 : sizeLine = 16777216 := sizeLine_eq
    have xl : xs.length = ls.length := by rw [dps_len dl, List.length_map]
    have lf := okf.len
    have hac : ha ≠ c := hc.ne hh (fun _ z => by cases z)
    refine ⟨_, rfl, c, 5, bb, rfl, by decide, by decide, hc, by omega, fun way H1 w0 w1 c1 b1 nn1 => ?_⟩
    have hh1 := b1 _ _ hac hh
    have hl1 := b1 _ _ lc hl
    have dl1 := lps_tk (Tk.bt hc b1) dl
    have hf1 := b1 _ _ fc hf
    refine ⟨_, rfl, ha, _, 0, _, rfl, rfl, SqT.of hh1, atI_nat (j := 0) rfl, la, _, rfl, .inl (SqL.of hl1), _, _, rfl, ?_⟩
    rw [xl]
    refine ⟨_, rfl, _, rfl, by omega, by omega, fun J nJ => ?_⟩
    refine lc_range (lo := 0) (n := ls.length) (fun j H' => Same H1 H' ∧ H' J = some (.lst (nI ((List.range j).filter fun k => decide ((k : Int) ∉ fs)))))
      ⟨same_new nJ, upd_same⟩ (fun j H' hj hg => ⟨rfl, ?_⟩) (fun H2 hg => ?_)
    · obtain ⟨sB, eJ⟩ := hg
      rw [Int.zero_add, filt_more]
      refine ⟨_, rfl, _, rfl, ha, _, 1, _, rfl, rfl, SqT.of (sB _ _ hh1), atI_nat (j := 1) rfl, fa, _, rfl, .inl (SqL.of (sB _ _ hf1)), rfl, flat_ints _, _, rfl, ?_⟩
      show if (!inV (.int (j : Int)) (fs.map V.int)) = true then _ else _
      rw [inV_int]
      by_cases cf : (j : Int) ∈ fs
      · exact LK.ifF (by simp [cf]) ⟨sB, by rw [eJ]; simp [cf]⟩
      · refine LK.ifT (by simp [cf]) ⟨_, rfl, _, eJ, ?_, fun b2 o e => ?_, ?_⟩
        · rw [List.length_map]
          have := List.length_filter_le (fun k : Nat => decide ((k : Int) ∉ fs)) (List.range j)
          rw [List.length_range] at this
          omega
        · rw [upd_ne (ne_of_none e nJ)]
          exact sB _ _ e
        · rw [upd_same]
          unfold nI
          rw [List.map_append]
          simp [cf]
    obtain ⟨s12, eJ⟩ := hg
    generalize hFR : ((List.range ls.length).filter fun k : Nat => decide ((k : Int) ∉ fs)) = fr at eJ
    have mfr : ∀ k ∈ fr, k < ls.length ∧ (k : Int) ∉ fs := fun k hk => by
      rw [← hFR] at hk
      obtain ⟨a, b⟩ := List.mem_filter.mp hk
      exact ⟨List.mem_range.mp a, of_decide_eq_true b⟩
    have lfr : fr.length ≤ 60 := by
      rw [← hFR]
      have := List.length_filter_le (fun k : Nat => decide ((k : Int) ∉ fs)) (List.range ls.length)
      rw [List.length_range] at this
      omega
    have c2 := c1.same s12
    -- a cloth of these loops: constructed in any heap that goes on
    have con : ∀ {Hn : Hp} {x dx g l : Addr} {gs : List Int} {Q' : VK} {E' : XK}, Same H1 Hn → Hn l = some (.lst xs) → Hn g = some (.lst (gs.map V.int)) → OkFs ls.length gs → Hn x = none → Hn dx = none → (∀ (H' : Hp) (ms : List Int), Same Hn H' → IsN K CC Hn H' x ls ms → ms.Perm gs → Q' .non H') → spClo K CC CF CL [.ref x, .ref l, .ref g] (upd (upd Hn dx (.own x)) x (.ins CC dx [])) Q' E' := fun {Hn x dx g l gs Q' E'} s hl' hg' okg nx ndx q => by
      obtain ⟨ys, okl, hy⟩ := rt
      exact clo_any C.cc C.n1 C.n2 hl' (dps_same s dl1) hg' okl hy okg (by omega) nx ndx fun H4 ms' L4 G4 xs4 s4 nL4 nG4 ex eL4 dL4 eG4 pm => q H4 ms' s4 ⟨dx, L4, G4, xs4, nL4, nG4, ex, eL4, dL4, eG4⟩ pm
    have here : ∀ {Hn}, Same H1 Hn → Hn ha = some (.tup [.ref la, .ref fa]) ∧ Hn la = some (.lst xs) ∧ Hn fa = some (.lst (fs.map V.int)) := fun s => ⟨s _ _ hh1, s _ _ hl1, s _ _ hf1⟩
    have tailok : OkFs ls.length fs.tail := ⟨okf.1.sublist (List.tail_sublist _), fun z hz => okf.2 z (List.mem_of_mem_tail hz)⟩
    -- elder
    obtain ⟨e1, e2, e3⟩ := here s12
    refine ⟨_, rfl, ha, _, 0, _, rfl, rfl, SqT.of e1, atI_nat (j := 0) rfl, la, _, rfl, .inl (SqL.of e2), fun l nl => ?_⟩
    have t1 := same_new (o := .lst xs) nl
    refine ⟨_, rfl, ha, _, 1, _, rfl, rfl, SqT.of (t1 _ _ e1), atI_nat (j := 1) rfl, fa, _, rfl, .inl (SqL.of (t1 _ _ e3)), fun g ng => ?_⟩
    have t2' := same_new (o := .lst (fs.map V.int)) ng
    intro x0 dx nx0 ndx ne
    refine con ((s12.trans t1).trans t2') (t2' _ _ upd_same) upd_same okf nx0 ndx fun H3 ms0 s3' in0 pm0 => ⟨rfl, ?_⟩
    have s13 := ((s12.trans t1).trans t2').trans s3'
    have in1 := in0.since ((s12.trans t1).trans t2')
    have eJ3 := s3' _ _ (t2' _ _ (t1 _ _ eJ))
    have n0 : H1 x0 = none := gone ((s12.trans t1).trans t2') nx0
    clear s3' t2' t1 in0 nx0 ng nl
    dsimp only [tSeq]
    refine stJ (t := tIfS _ _ _) (fun σ Hn => ∃ (x : Addr) (ms gs : List Int), σ = [some (.ref c), some (.ref ha), some (.int way), some (.int (ls.length : Int)), some (.ref J), some (.ref x), none] ∧ H1 x = none ∧ Same H1 Hn ∧ Hn J = some (.lst (nI fr)) ∧ IsN K CC H1 Hn x ls ms ∧ ms.Perm gs ∧ gs = if way = 1 ∧ fs ≠ [] then fs.tail else fs) (fun D' aft => ?_) ?_
    · refine ⟨_, rfl, rfl, _, rfl, ?_⟩
      by_cases cw : way = 1
      · refine LK.ifT (by rw [cw]; rfl) ?_
        obtain ⟨e1, e2, e3⟩ := here s13
        refine ⟨_, rfl, ha, _, 1, _, rfl, rfl, SqT.of e1, atI_nat (j := 1) rfl, by show 0 ≤ sizeLine; decide, fun e ne => ?_⟩
        have t1 := same_new (o := .lst []) ne
        refine ⟨.list (fs.map PyData.int), .list (([] : List Int).map PyData.int), .lst (SqL.of (t1 _ _ e3)) (dp_ints_of _), .lst (SqL.of upd_same) .nil, sh_ints _, sh_ints [], _, rfl, ?_⟩
        rw [eqv_ints]
        by_cases cf : fs = []
        · exact LK.ifF (by rw [cf]; rfl) (aft _ _ ⟨x0, ms0, fs, rfl, n0, s13.trans t1, t1 _ _ eJ3, in1.same t1, pm0, by rw [if_neg (fun h => h.2 cf)]⟩)
        · refine LK.ifT (by simp [cf]) ?_
          have s14 := s13.trans t1
          have eJ4 := t1 _ _ eJ3
          generalize upd H3 e (.lst []) = H4 at s14 eJ4
          obtain ⟨e1, e2, e3⟩ := here s14
          refine ⟨_, rfl, ha, _, 0, _, rfl, rfl, SqT.of e1, atI_nat (j := 0) rfl, la, _, rfl, .inl (SqL.of e2), fun l nl => ?_⟩
          have t2 := same_new (o := .lst xs) nl
          refine ⟨_, rfl, ha, _, 1, _, rfl, rfl, SqT.of (t2 _ _ e1), atI_nat (j := 1) rfl, _, rfl, fa, _, rfl, SqL.of (t2 _ _ e3), fun g ng => ?_⟩
          rw [cut_tail cf]
          have t3' := same_new (o := .lst (fs.tail.map V.int)) ng
          intro x1 dx nx1 ndx ne
          refine con ((s14.trans t2).trans t3') (t3' _ _ upd_same) upd_same tailok nx1 ndx fun H5 ms1 s5 in1 pm1 => ⟨rfl, ?_⟩
          exact aft _ _ ⟨x1, ms1, fs.tail, rfl, gone ((s14.trans t2).trans t3') nx1, ((s14.trans t2).trans t3').trans s5, s5 _ _ (t3' _ _ (t2 _ _ eJ4)), in1.since ((s14.trans t2).trans t3'), pm1, by rw [if_pos ⟨cw, cf⟩]⟩
      · exact LK.ifF (by simp [cw]) (LK.ifF rfl (aft _ _ ⟨x0, ms0, fs, rfl, n0, s13, eJ3, in1, pm0, by rw [if_neg (fun h => cw h.1)]⟩))
    rintro σ H4 ⟨x1, ms1, gs1, rfl, n1, s14, eJ4, in4, pm4, eg4⟩
    clear pm0 in1 eJ3 s13
    dsimp only [tSeq]
    refine stJ (t := tIfS _ _ _) (fun σ Hn => ∃ (x : Addr) (ms gs : List Int), σ = [some (.ref c), some (.ref ha), some (.int way), some (.int (ls.length : Int)), some (.ref J), some (.ref x), none] ∧ H1 x = none ∧ Same H1 Hn ∧ Hn J = some (.lst (nI fr)) ∧ IsN K CC H1 Hn x ls ms ∧ ms.Perm gs ∧ OkFs ls.length gs ∧ (way = 1 ∧ fs ≠ [] → gs = fs.tail) ∧ (way = 2 ∧ fr ≠ [] → ∃ z ∈ fr, atI (nI fr) (-1) = some (.int (z : Int)) ∧ gs = fs ++ [(z : Int)]) ∧ (¬(way = 1 ∧ fs ≠ []) → ¬(way = 2 ∧ fr ≠ []) → gs = fs)) (fun D' aft => ?_) ?_
    · have okg4 : OkFs ls.length gs1 := by
        rw [eg4]
        split
        · exact tailok
        · exact okf
      refine ⟨_, rfl, rfl, _, rfl, ?_⟩
      by_cases cw : way = 2
      · refine LK.ifT (by rw [cw]; rfl) ?_
        refine ⟨_, rfl, by show 0 ≤ sizeLine; decide, fun e ne => ?_⟩
        have t1 := same_new (o := .lst []) ne
        refine ⟨.list ((cI fr).map PyData.int), .list (([] : List Int).map PyData.int), .lst (SqL.of (by rw [← nI_cI]; exact t1 _ _ eJ4)) (dp_ints_of _), .lst (SqL.of upd_same) .nil, sh_ints _, sh_ints [], _, rfl, ?_⟩
        rw [eqv_ints]
        by_cases cf : fr = []
        · refine LK.ifF (by rw [cf]; rfl) (aft _ _ ⟨x1, ms1, gs1, rfl, n1, s14.trans t1, t1 _ _ eJ4, in4.same t1, pm4, okg4, fun h => by omega, fun h => absurd cf h.2, fun h _ => by rw [eg4, if_neg h]⟩)
        · refine LK.ifT (by simp [cI, cf]) ?_
          have s15 := s14.trans t1
          have eJ5 := t1 _ _ eJ4
          generalize upd H4 e (.lst []) = H5 at s15 eJ5
          obtain ⟨e1, e2, e3⟩ := here s15
          obtain ⟨z, hz, ctl, atl⟩ := cut_lastN cf
          obtain ⟨zl, zf⟩ := mfr z hz
          refine ⟨_, rfl, ha, _, 0, _, rfl, rfl, SqT.of e1, atI_nat (j := 0) rfl, la, _, rfl, .inl (SqL.of e2), fun l nl => ?_⟩
          have t2 := same_new (o := .lst xs) nl
          refine ⟨_, rfl, ha, _, 1, _, rfl, rfl, SqT.of (t2 _ _ e1), atI_nat (j := 1) rfl, _, rfl, _, rfl, _, rfl, J, _, rfl, SqL.of (t2 _ _ eJ5), fun W nW => ?_⟩
          rw [ctl]
          have t3 := t2.trans (same_new (o := .lst [V.int (z : Int)]) nW)
          refine ⟨fa, W, _, _, rfl, rfl, t3 _ _ e3, upd_same, by simp only [List.length_map, List.length_singleton]; omega, fun g ng => ?_⟩
          have t4' := same_new (o := .lst (fs.map V.int ++ [V.int (z : Int)])) ng
          have eg : upd (upd (upd H5 l (.lst xs)) W (.lst [V.int (z : Int)])) g (.lst (fs.map V.int ++ [V.int (z : Int)])) g = some (.lst ((fs ++ [(z : Int)]).map V.int)) := by rw [upd_same, List.map_append]; rfl
          have el := t4' _ _ (same_new (o := .lst [V.int (z : Int)]) nW _ _ (upd_same (H := H5) (a := l) (o := .lst xs)))
          intro x2 dx nx2 ndx ne
          refine con ((s15.trans t3).trans t4') el eg (ok_more okf zf ⟨by omega, by omega⟩) nx2 ndx fun H6 ms2 s6 in6 pm6 => ⟨rfl, ?_⟩
          exact aft _ _ ⟨x2, ms2, _, rfl, gone ((s15.trans t3).trans t4') nx2, ((s15.trans t3).trans t4').trans s6, s6 _ _ (t4' _ _ (t3 _ _ eJ5)), in6.since ((s15.trans t3).trans t4'), pm6, ok_more okf zf ⟨by omega, by omega⟩, fun h => by omega, fun _ => ⟨z, hz, atl, rfl⟩, fun _ h => absurd ⟨cw, cf⟩ h⟩
      · exact LK.ifF (by simp [cw]) (LK.ifF rfl (aft _ _ ⟨x1, ms1, gs1, rfl, n1, s14, eJ4, in4, pm4, okg4, fun h => by rw [eg4, if_pos h], fun h => absurd h.1 cw, fun h _ => by rw [eg4, if_neg h]⟩))
    rintro σ H5 ⟨x, ms, gs, rfl, nxx, s15, eJ5, in5, pm5, okg, g1, g2, g3⟩
    clear pm4 in4 eJ4 s14
    refine ⟨_, rfl, x, ls, ms, rfl, in5.is, rt, by omega, okg.perm pm5, fun H6 s6' => ?_⟩
    have s16 := s15.trans s6'
    have in6 := in5.same s6'
    have eJ6 := s6' _ _ eJ5
    clear s6' in5 eJ5 s15
    have okm := okg.perm pm5
    have fin : ∀ {q : Addr} {H' : Hp} {ms' : List Int}, H1 q = none → Same H1 H' → IsN K CC H1 H' q ls ms' → ms'.Perm fs → Q (.ref q) H' := fun {q H' ms'} nq s' isn pm =>
      k q H' ms' ((nn1 q).mp nq) (isn.old' hc b1 (fun {p} => nn1 p) (Same.refl H1)) pm ((c1.same s').mono (by omega)) (b1.trans (Bt.of s'))
    have ndf := okf.1
    -- way 1
    dsimp only [tSeq]
    refine stR (t := tIfS _ _ _) (fun σ Hn => σ = [some (.ref c), some (.ref ha), some (.int way), some (.int (ls.length : Int)), some (.ref J), some (.ref x), none] ∧ Same H6 Hn ∧ ¬(way = 1 ∧ fs ≠ [])) (fun nx' aft => ?_) ?_
    · refine ⟨_, rfl, rfl, _, rfl, ?_⟩
      by_cases cw : way = 1
      · refine LK.ifT (by rw [cw]; rfl) ?_
        obtain ⟨e1, e2, e3⟩ := here s16
        refine ⟨_, rfl, ha, _, 1, _, rfl, rfl, SqT.of e1, atI_nat (j := 1) rfl, by show 0 ≤ sizeLine; decide, fun e ne => ?_⟩
        have t1 := same_new (o := .lst []) ne
        refine ⟨.list (fs.map PyData.int), .list (([] : List Int).map PyData.int), .lst (SqL.of (t1 _ _ e3)) (dp_ints_of _), .lst (SqL.of upd_same) .nil, sh_ints _, sh_ints [], _, rfl, ?_⟩
        rw [eqv_ints]
        by_cases cf : fs = []
        · exact LK.ifF (by rw [cf]; rfl) (aft _ _ ⟨rfl, t1, fun h => h.2 cf⟩)
        · refine LK.ifT (by simp [cf]) ?_
          have s17 := s16.trans t1
          have in7 := in6.same t1
          generalize upd H6 e (.lst []) = H7 at s17 in7
          obtain ⟨e1, e2, e3⟩ := here s17
          obtain ⟨f0, r, hfs⟩ := List.exists_cons_of_ne_nil cf
          have f0r := okf.2 f0 (by rw [hfs]; exact List.mem_cons_self)
          obtain ⟨dx, L, G, xs', _, _, ex, _⟩ := id in7
          refine ⟨_, rfl, x, dx, _, rfl, ex, rfl, _, rfl, ha, _, 1, _, rfl, rfl, SqT.of e1, atI_nat (j := 1) rfl, fa, _, 0, .int f0, rfl, rfl, SqL.of e3, atI_nat (j := 0) (by rw [hfs]; rfl), ?_⟩
          refine ⟨x, f0, ls, ms, rfl, in7.is, rt, by omega, f0r.1, f0r.2, okm, fun q H' ms' nq s' isn pm => fin (gone s17 nq) (s17.trans s') (isn.since s17) ?_⟩
          have eg : gs = r := by rw [g1 ⟨cw, cf⟩, hfs]; rfl
          rw [hfs] at ndf
          have nin := (List.nodup_cons.mp ndf).1
          have p1 : (ms.filter fun z => decide (z ≠ f0)).Perm r := by
            have := (pm5.filter fun z => decide (z ≠ f0))
            have e9 : (r.filter fun z => decide (z ≠ f0)) = r := List.filter_eq_self.mpr fun z hz => decide_eq_true (by rintro rfl; exact nin hz)
            rw [eg, e9] at this
            exact this
          rw [hfs]
          exact pm.trans ((p1.append_right [f0]).trans (List.perm_append_singleton f0 r))
      · exact LK.ifF (by simp [cw]) (LK.ifF rfl (aft _ _ ⟨rfl, Same.refl _, fun h => cw h.1⟩))
    rintro σ H7 ⟨rfl, s67, nw1⟩
    have s17 := s16.trans s67
    have in7 := in6.same s67
    have eJ7 := s67 _ _ eJ6
    -- way 2
    dsimp only [tSeq]
    refine stR (t := tIfS _ _ _) (fun σ Hn => σ = [some (.ref c), some (.ref ha), some (.int way), some (.int (ls.length : Int)), some (.ref J), some (.ref x), none] ∧ Same H7 Hn ∧ ¬(way = 2 ∧ fr ≠ [])) (fun nx' aft => ?_) ?_
    · refine ⟨_, rfl, rfl, _, rfl, ?_⟩
      by_cases cw : way = 2
      · refine LK.ifT (by rw [cw]; rfl) ?_
        refine ⟨_, rfl, by show 0 ≤ sizeLine; decide, fun e ne => ?_⟩
        have t1 := same_new (o := .lst []) ne
        refine ⟨.list ((cI fr).map PyData.int), .list (([] : List Int).map PyData.int), .lst (SqL.of (by rw [← nI_cI]; exact t1 _ _ eJ7)) (dp_ints_of _), .lst (SqL.of upd_same) .nil, sh_ints _, sh_ints [], _, rfl, ?_⟩
        rw [eqv_ints]
        by_cases cf : fr = []
        · exact LK.ifF (by rw [cf]; rfl) (aft _ _ ⟨rfl, t1, fun h => h.2 cf⟩)
        · refine LK.ifT (by simp [cI, cf]) ?_
          have s18 := s17.trans t1
          have in8 := in7.same t1
          have eJ8 := t1 _ _ eJ7
          generalize upd H7 e (.lst []) = H8 at s18 in8 eJ8
          obtain ⟨z, hz, atl, eg⟩ := g2 ⟨cw, cf⟩
          obtain ⟨zl, zf⟩ := mfr z hz
          obtain ⟨dx, L, G, xs', _, _, ex, _⟩ := id in8
          refine ⟨_, rfl, x, dx, _, rfl, ex, rfl, _, rfl, _, rfl, J, _, -1, .int (z : Int), rfl, rfl, SqL.of eJ8, atl, ?_⟩
          refine ⟨x, (z : Int), ls, ms, rfl, in8.is, rt, by omega, by omega, by omega, okm, fun q H' ms' nq s' isn pm => fin (gone s18 nq) (s18.trans s') (isn.since s18) ?_⟩
          have p1 := (pm5.filter fun y => decide (y ≠ (z : Int)))
          have e9 : (fs.filter fun y => decide (y ≠ (z : Int))) = fs := List.filter_eq_self.mpr fun y hy => decide_eq_true (by rintro rfl; exact zf hy)
          rw [eg, List.filter_append, e9] at p1
          have e0 : [(z : Int)].filter (fun y => decide (y ≠ (z : Int))) = [] := by simp
          rw [e0, List.append_nil] at p1
          exact pm.trans p1
      · exact LK.ifF (by simp [cw]) (LK.ifF rfl (aft _ _ ⟨rfl, Same.refl _, fun h => cw h.1⟩))
    rintro σ H8 ⟨rfl, s78, nw2⟩
    have s18 := s17.trans s78
    have in8 := in7.same s78
    have pmf : ms.Perm fs := by rw [← g3 nw1 nw2]; exact pm5
    clear s67 s16 in6 eJ6 eJ7 s17 in7 s78
    have okE : OkFs 0 ([] : List Int) := ⟨List.nodup_nil, fun z h => absurd h List.not_mem_nil⟩
    have okLE : OkLs [] ([] : List Lp) := fun k l e => by rw [List.getElem?_nil] at e; cases e
    have rE : Right [] := ⟨[], okLE, fun y h => absurd h List.not_mem_nil⟩
    -- way 3
    refine ⟨_, rfl, rfl, _, rfl, ?_⟩
    by_cases c3 : way = 3
    · refine LK.ifT (by rw [c3]; rfl) ⟨by show 0 ≤ sizeLine; decide, fun a na => ⟨by show 0 ≤ sizeLine; decide, fun b nb => ?_⟩⟩
      have t1 := same_new (o := .lst []) na
      have t2' := same_new (o := .lst []) nb
      have t2 := t1.trans t2'
      intro x3 dx3 n3 nd3 ne
      refine clo_any (ls := []) (fs := []) (xs := []) C.cc C.n1 C.n2 (t2' _ _ upd_same) .nil upd_same okLE (fun y h => absurd h List.not_mem_nil) okE (by decide) n3 nd3 fun H9 msE LE GE xsE s9 nLE nGE ex3 eLE dLE eGE pmE => ⟨rfl, ?_⟩
      have s19 := (s18.trans t2).trans s9
      have in9 := in8.same (t2.trans s9)
      obtain ⟨dx, L, G, xs', _, _, ex, _⟩ := id in9
      refine ⟨_, rfl, x3, x, dx3, dx, _, _, rfl, rfl, ex3, ex, x3, x, [], msE, ls, ms, rfl, ⟨dx3, LE, GE, xsE, ex3, eLE, dLE, eGE⟩, in9.is, rE, rt, by simpa using ln, ln, okE.perm pmE, okm, fun q H' ms' nq s' isn pm => ⟨⟨q, rfl⟩, ?_⟩⟩
      rw [List.nil_append, up_zero] at isn
      refine fin (gone s19 nq) (s19.trans s') (isn.since s19) (pm.trans ?_)
      rw [List.Perm.eq_nil pmE, List.nil_append, add_zero]
      exact pmf
    refine LK.ifF (by simp [c3]) ?_
    refine ⟨_, rfl, rfl, _, rfl, ?_⟩
    by_cases c4 : way = 4
    · refine LK.ifT (by rw [c4]; rfl) ⟨_, rfl, by show 0 ≤ sizeLine; decide, fun a na => ⟨by show 0 ≤ sizeLine; decide, fun b nb => ?_⟩⟩
      have t1 := same_new (o := .lst []) na
      have t2' := same_new (o := .lst []) nb
      have t2 := t1.trans t2'
      intro x3 dx3 n3 nd3 ne
      refine clo_any (ls := []) (fs := []) (xs := []) C.cc C.n1 C.n2 (t2' _ _ upd_same) .nil upd_same okLE (fun y h => absurd h List.not_mem_nil) okE (by decide) n3 nd3 fun H9 msE LE GE xsE s9 nLE nGE ex3 eLE dLE eGE pmE => ⟨rfl, ?_⟩
      have s19 := (s18.trans t2).trans s9
      have in9 := in8.same (t2.trans s9)
      obtain ⟨dx, L, G, xs', _, _, ex, _⟩ := id in9
      refine ⟨x, x3, dx, dx3, _, _, rfl, rfl, ex, ex3, x, x3, ls, ms, [], msE, rfl, in9.is, ⟨dx3, LE, GE, xsE, ex3, eLE, dLE, eGE⟩, rt, rE, ln, by decide, okm, okE.perm pmE, fun q H' ms' nq s' isn pm => ⟨⟨q, rfl⟩, ?_⟩⟩
      rw [List.map_nil, List.append_nil] at isn
      refine fin (gone s19 nq) (s19.trans s') (isn.since s19) (pm.trans ?_)
      rw [List.Perm.eq_nil pmE, List.map_nil, List.append_nil]
      exact pmf
    · exact LK.ifF (by simp [c4]) ⟨_, rfl, fin nxx s18 in8 pmf⟩
end
end B7
/-! What is sure: by one more cut. -/
namespace B7
open PySem PySem.Spec PyProof.Rows L2 LK MXo MXi MXp
/-- what stays open: neither sure nor gone -/
def Open (ls : List Lp) (ms us ds : List Int) (k : Nat) : Prop := k ∉ fallD ls ms ds ∧ ¬ SureP (nearD ls ms ds) us k
theorem fits_up {ls : List Lp} {ms us ds : List Int} (f : fitsD ls ms us ds = true) {z : Int} (hz : z ∈ us) : ∃ k : Nat, z = (k : Int) ∧ k ∈ upL ls ms ds ls.length := by
  have u := of_decide_eq_true (List.all_eq_true.mp f z hz)
  obtain ⟨k, hk, e⟩ := List.mem_map.mp u
  exact ⟨k, e.symm, hk⟩
theorem sure_up {ls : List Lp} {ms us ds : List Int} (par : Par ls) (f : fitsD ls ms us ds = true) {k : Nat} (h : SureP (nearD ls ms ds) us k) : k ∈ upL ls ms ds ls.length := by
  obtain ⟨u, hu, r⟩ := h
  obtain ⟨j, rfl, hj⟩ := fits_up f hu
  exact rc_up par r hj
/-- sure, not sure: by one more cut -/
theorem sure_cut {ls : List Lp} {ms us ds : List Int} (par : Par ls) (f : fitsD ls ms us ds = true) {k : Nat} : SureP (nearD ls ms ds) us k ↔ ∃ j : Nat, (j : Int) ∈ us ∧ j ∉ upL ls ms (ds ++ [(k : Int)]) ls.length := by
  constructor
  · rintro ⟨u, hu, r⟩
    obtain ⟨j, rfl, hj⟩ := fits_up f hu
    exact ⟨j, hu, (rc_taken par _ (Nat.le_refl _) hj).mp r⟩
  · rintro ⟨j, hu, n⟩
    obtain ⟨j', e, hj⟩ := fits_up f hu
    obtain rfl : j = j' := by omega
    exact ⟨(j : Int), hu, (rc_taken par _ (Nat.le_refl _) hj).mpr n⟩
/-- one more cut that is open: all that is seen still stands -/
theorem open_fits {ls : List Lp} {ms us ds : List Int} (par : Par ls) (f : fitsD ls ms us ds = true) {k : Nat} (h : ¬ SureP (nearD ls ms ds) us k) : fitsD ls ms us (ds ++ [(k : Int)]) = true := by
  unfold fitsD
  refine List.all_eq_true.mpr fun z hz => decide_eq_true ?_
  obtain ⟨j, rfl, hj⟩ := fits_up f hz
  exact memI.mpr (Classical.byContradiction fun q => h ((sure_cut par f).mpr ⟨j, hz, q⟩))
/-- the cuts in another order -/
theorem up_perm {ls : List Lp} {ms c1 c2 : List Int} (h : ∀ z, z ∈ c1 ↔ z ∈ c2) {k : Nat} : k ∈ upL ls ms c1 ls.length ↔ k ∈ upL ls ms c2 ls.length :=
  ⟨fun u => upL_mono (n := ls.length) (fun z hz m => upL_cut hz ((h _).mpr m)) (Nat.le_refl _) u, fun u => upL_mono (n := ls.length) (fun z hz m => upL_cut hz ((h _).mp m)) (Nat.le_refl _) u⟩
end B7
/-! surely that raises, shown. -/
namespace B7
open PySem PySem.Spec PyProof.Rows L2 LK MXo MXi MXp MXr MXb MXd
abbrev sShw : Stmt := top 26
theorem scShw : FnScope ["cloth", "stood", "ran", "loop"] ["cloth", "stood", "ran", "loop"] (defScope sShw) := ⟨rfl, rfl, rfl, by decide +kernel, rfl, by decide +kernel, by decide +kernel⟩
abbrev sSuX : Stmt := top 25
theorem scSuX : FnScope ["cloth", "stood", "ran", "many", "near", "sure", "loop", "one", "gone", "rest"] ["cloth", "stood", "ran"] (defScope sSuX) := ⟨rfl, rfl, rfl, by decide +kernel, rfl, by decide +kernel, by decide +kernel⟩
abbrev sShX : Stmt := top 26
theorem scShX : FnScope ["cloth", "stood", "ran", "loop"] ["cloth", "stood", "ran", "loop"] (defScope sShX) := ⟨rfl, rfl, rfl, by decide +kernel, rfl, by decide +kernel, by decide +kernel⟩
def spShw (K : PySem.W.Frag) (CC : Addr) : Sp := fun vs H Q _ => ∃ (x ua da : Addr) (ls : List Lp) (ms us ds : List Int) (j : Nat), vs = [.ref x, .ref ua, .ref da, .int (j : Int)] ∧ IsC K CC H x ls ms ∧ Thin ls ∧ ms.length ≤ 100 ∧ SqL K H ua (us.map V.int) ∧ H da = some (.lst (ds.map V.int)) ∧ OkFs ls.length us ∧ OkFs ls.length ds ∧ Par ls ∧ ls.length < 64 ∧ j < ls.length ∧ fitsD ls ms us ds = true ∧
  (¬ Open ls ms us ds j → ∀ H', Same H H' → Q .non H') ∧ (Open ls ms us ds j → ∀ (p a b : Addr) (H' : Hp), H p = none → H a = none → H b = none → a ≠ b → Same H H' → H' p = some (.tup [.ref a, .ref b]) → H' a = some (.lst ((srt ds).map V.int)) → H' b = some (.lst ((srt (ds ++ [(j : Int)])).map V.int)) → Q (.ref p) H')
def spSuX (K : PySem.W.Frag) (CC CU : Addr) : Sp := fun vs H Q E => ∃ (x ua da : Addr) (ls : List Lp) (ms us ds : List Int), vs = [.ref x, .ref ua, .ref da] ∧ IsC K CC H x ls ms ∧ Thin ls ∧ ms.length ≤ 100 ∧ SqL K H ua (us.map V.int) ∧ SqL K H da (ds.map V.int) ∧ OkFs ls.length us ∧ OkFs ls.length ds ∧ fitsD ls ms us ds = false ∧ Out CU H E (.int 0)
def spShX (K : PySem.W.Frag) (CC CU : Addr) : Sp := fun vs H Q E => ∃ (x ua da : Addr) (ls : List Lp) (ms us ds : List Int) (j : Nat), vs = [.ref x, .ref ua, .ref da, .int (j : Int)] ∧ IsC K CC H x ls ms ∧ Thin ls ∧ ms.length ≤ 100 ∧ SqL K H ua (us.map V.int) ∧ SqL K H da (ds.map V.int) ∧ OkFs ls.length us ∧ OkFs ls.length ds ∧ j < ls.length ∧ fitsD ls ms us ds = false ∧ Out CU H E (.int 0)
section
variable {P : Program} {w : World} {K : PySem.W.Frag} {mg : Str → Option Value} {base : Heap} {CC : Addr}
theorem ok_Shw {f : Addr} {fd : FuncData} (F : Fun K "shown" "shown" sShw f fd) (B : Bl mg) (R : Pr2 P w K mg base CC)
    {f_check_lot : Addr} {d_check_lot : FuncData} (G_check_lot : FnOk P w K mg base CX0 4 f_check_lot d_check_lot ["lot", "many"] (spOkLot K)) (g_check_lot : mg "check_lot" = some (.ref f_check_lot)) (k_check_lot : PySem.W.keepIn K (.ref f_check_lot) = true) (b_check_lot : Binds K d_check_lot ["lot", "many"] [])
    {f_check_loop : Addr} {d_check_loop : FuncData} (G_check_loop : FnOk P w K mg base CX0 3 f_check_loop d_check_loop ["loop", "many"] spOkLoop) (g_check_loop : mg "check_loop" = some (.ref f_check_loop)) (k_check_loop : PySem.W.keepIn K (.ref f_check_loop) = true) (b_check_loop : Binds K d_check_loop ["loop", "many"] [])
    {f_surely : Addr} {d_surely : FuncData} (G_surely : FnOk P w K mg base CX0 7 f_surely d_surely ["cloth", "stood", "ran"] (spSur K CC)) (g_surely : mg "surely" = some (.ref f_surely)) (k_surely : PySem.W.keepIn K (.ref f_surely) = true) (b_surely : Binds K d_surely ["cloth", "stood", "ran"] []) : FnOk P w K mg base CX0 8 f fd ["cloth", "stood", "ran", "loop"] (spShw K CC) := by
  refine F.ok scShw (fun vs H Q E h => ?_) (fun cdv A outer s H vs Q E hr h => ?_)
  · obtain ⟨x, ua, da, _, _, _, _, _, rfl, _⟩ := h
    rfl
  · obtain ⟨x, ua, da, ls, ms, us, ds, j, rfl, ic, thin, lm, hu, hd, oku, okd, par, l64, jl, fit, k1, k2⟩ := h
    refine ⟨_, pss_cons (ps_expr (pe_call (E := E0) G_check_lot (hr.mono (by decide)) rfl g_check_lot k_check_lot b_check_lot .nil pass0 (pa_cons (pv 1) (pa_cons (pe_callB (call_lenO (E := E0) R.aN R.oN (hr.mono (by decide)) R.bN pass0) (by rfl) (B "len" (by decide)) (by decide +kernel) (pa_cons (pv 0) pa_nil)) pa_nil))))
      (pss_cons (ps_expr (pe_call (E := E0) G_check_lot (hr.mono (by decide)) rfl g_check_lot k_check_lot b_check_lot .nil pass0 (pa_cons (pv 2) (pa_cons (pe_callB (call_lenO (E := E0) R.aN R.oN (hr.mono (by decide)) R.bN pass0) (by rfl) (B "len" (by decide)) (by decide +kernel) (pa_cons (pv 0) pa_nil)) pa_nil))))
      (pss_cons (ps_expr (pe_call (E := E0) G_check_loop (hr.mono (by decide)) rfl g_check_loop k_check_loop b_check_loop .nil pass0 (pa_cons (pv 3) (pa_cons (pe_callB (call_lenO (E := E0) R.aN R.oN (hr.mono (by decide)) R.bN pass0) (by rfl) (B "len" (by decide)) (by decide +kernel) (pa_cons (pv 0) pa_nil)) pa_nil))))
      (pss_cons (ps_if (pt_cmpR op_notIn_seq (pv 3) (pe_ix (ixt (K := K)) (pe_call (E := E0) G_surely (hr.mono (by decide)) rfl g_surely k_surely b_surely .nil pass0 (pa_cons (pv 0) (pa_cons (pv 1) (pa_cons (pv 2) pa_nil)))) pe_int (fun _ _ => rfl)) (by rfl)) (pss_one (ps_ret pe_non)) pss_nil)
      (pss_one (ps_ret (pe_tup (pa_cons (pe_callB cr_sortedI (by rfl) (B "sorted" (by decide)) (by decide +kernel) (pa_cons (pv 2) pa_nil)) (pa_cons (pe_callB cr_sortedI (by rfl) (B "sorted" (by decide)) (by decide +kernel) (pa_cons (pe_op op_cat (pv 2) (pe_lst (pa_cons (pv 3) pa_nil))) pa_nil)) pa_nil)))))))), ?_⟩
    have ty2 : sizeLine = 16777216 := sizeLine_eq
    have ln := thin.1
    have ul := oku.len
    have dln := okd.len
    have len : ∀ {H'}, Same H H' → ∃ (dx L0 G0 : Addr) (xs : List V), H' x = some (.ins CC dx [("_loops", .ref L0), ("_fast", .ref G0)]) ∧ H' L0 = some (.lst xs) ∧ xs.length = ls.length := fun s => by
      obtain ⟨dx, L0, G0, xs, hx, hL, dl, hG⟩ := ic.same s
      exact ⟨dx, L0, G0, xs, hx, hL, by rw [dps_len dl, List.length_map]⟩
    obtain ⟨dx, L0, G0, xs, hx, hL, xl⟩ := len (Same.refl H)
    refine ⟨_, rfl, _, rfl, x, dx, _, rfl, hx, x, dx, L0, _, xs, rfl, hx, R.cc, R.n1, rfl, hL, _, rfl, by omega, by omega, ?_⟩
    refine ⟨ua, xs.length, us, rfl, hu, by rw [xl]; exact oku, by omega, fun H1 s1 => ?_⟩
    obtain ⟨dx, L0, G0, xs, hx, hL, xl⟩ := len s1
    refine ⟨_, rfl, _, rfl, x, dx, _, rfl, hx, x, dx, L0, _, xs, rfl, hx, R.cc, R.n1, rfl, hL, _, rfl, by omega, by omega, ?_⟩
    refine ⟨da, xs.length, ds, rfl, SqL.of (s1 _ _ hd), by rw [xl]; exact okd, by omega, fun H2 s2' => ?_⟩
    have s2 := s1.trans s2'
    obtain ⟨dx, L0, G0, xs, hx, hL, xl⟩ := len s2
    refine ⟨_, rfl, _, rfl, x, dx, _, rfl, hx, x, dx, L0, _, xs, rfl, hx, R.cc, R.n1, rfl, hL, _, rfl, by omega, by omega, ?_⟩
    refine ⟨(j : Int), (xs.length : Int), rfl, by omega, by omega, fun H3 s3' => ?_⟩
    have s3 := s2.trans s3'
    refine ⟨_, rfl, _, rfl, _, rfl, _, rfl, x, ua, da, ls, ms, us, ds, rfl, ic.same s3, thin, lm, s3.seq hu, SqL.of (s3 _ _ hd), oku, okd, par, l64, fit, fun sl pw mem p sa ga ra H4 np nsa nga nra s4' e e1 e2 e3 => ?_⟩
    have s4 := s3.trans s4'
    refine ⟨p, _, 2, _, rfl, rfl, SqT.of e, atI_nat (j := 2) rfl, ra, _, rfl, .inl (SqL.of e3), rfl, flat_nI _, _, rfl, ?_⟩
    rw [inV_nI]
    have op : j ∈ ((List.range ls.length).filter fun k => decide (k ∉ sl ∧ k ∉ fallD ls ms ds)) ↔ Open ls ms us ds j := by
      rw [List.mem_filter, decide_eq_true_eq, mem j]
      exact ⟨fun h => ⟨h.2.2, h.2.1⟩, fun h => ⟨List.mem_range.mpr jl, h.2, h.1⟩⟩
    by_cases c : Open ls ms us ds j
    · refine LK.ifF (by rw [decide_eq_true (op.mpr c)]; rfl) ?_
      refine ⟨_, rfl, da, ds, rfl, SqL.of (s4 _ _ hd), fun n1 q1 pm1 pw1 nq1 => ?_⟩
      obtain rfl := srt_of pm1 pw1
      have t1 := same_new (o := .lst ((srt ds).map V.int)) nq1
      refine ⟨_, rfl, _, rfl, by show 1 ≤ sizeLine; decide, fun q2 nq2 => ?_⟩
      have t2' := same_new (o := .lst [.int (j : Int)]) nq2
      have t2 := t1.trans t2'
      refine ⟨da, q2, _, _, rfl, rfl, t2 _ _ (s4 _ _ hd), upd_same, by simp only [List.length_map, List.length_cons, List.length_nil]; omega, fun q3 nq3 => ?_⟩
      have t3' := same_new (o := .lst (ds.map V.int ++ [.int (j : Int)])) nq3
      have t3 := t2.trans t3'
      have e3' : upd (upd (upd H4 q1 (.lst ((srt ds).map V.int))) q2 (.lst [.int (j : Int)])) q3 (.lst (ds.map V.int ++ [.int (j : Int)])) q3 = some (.lst ((ds ++ [(j : Int)]).map V.int)) := by rw [upd_same, List.map_append]; rfl
      refine ⟨q3, ds ++ [(j : Int)], rfl, SqL.of e3', fun n4 q4 pm4 pw4 nq4 => ?_⟩
      obtain rfl := srt_of pm4 pw4
      have t4' := same_new (o := .lst ((srt (ds ++ [(j : Int)])).map V.int)) nq4
      have t4 := t3.trans t4'
      refine ⟨by show 2 ≤ sizeLine; decide, fun tp ntp => ?_⟩
      have t5' := same_new (o := .tup [.ref q1, .ref q4]) ntp
      have t5 := t4.trans t5'
      have eq1 := (((t2'.trans t3').trans t4').trans t5') _ _ (upd_same (H := H4) (a := q1) (o := .lst ((srt ds).map V.int)))
      exact k2 c tp q1 q4 _ (gone (s4.trans t4) ntp) (gone s4 nq1) (gone (s4.trans t3) nq4) (ne_of_none (((t2'.trans t3')) _ _ (upd_same (H := H4) (a := q1) (o := .lst ((srt ds).map V.int)))) nq4) (s4.trans t5) upd_same eq1 (t5' _ _ upd_same)
    · exact LK.ifT (by rw [decide_eq_false (fun z => c (op.mp z))]; rfl) (k1 c _ s4)
theorem ok_SuX {f : Addr} {fd : FuncData} (F : Fun K "surely" "surely" sSuX f fd) (B : Bl mg) {fI CU : Addr} {fdI : FuncData} (I : Ini P w K mg base fI fdI) (TU : XC K mg fI CU "Unfit" "value") (R : Pr2 P w K mg base CC)
    {f_fits : Addr} {d_fits : FuncData} (G_fits : FnOk P w K mg base CX0 6 f_fits d_fits ["cloth", "stood", "ran"] (spFits K CC)) (g_fits : mg "fits" = some (.ref f_fits)) (k_fits : PySem.W.keepIn K (.ref f_fits) = true) (b_fits : Binds K d_fits ["cloth", "stood", "ran"] []) : FnOk P w K mg base (L2N.CX P w) 7 f fd ["cloth", "stood", "ran"] (spSuX K CC CU) := by
  refine F.okC scSuX (fun vs H Q E h => ?_) (fun cdv A outer s H vs Q E hr h => ?_)
  · obtain ⟨x, ua, da, _, _, _, _, rfl, _⟩ := h
    rfl
  · obtain ⟨x, ua, da, ls, ms, us, ds, rfl, ic, thin, lm, hu, hd, oku, okd, fit, k⟩ := h
    refine ⟨_, pss_cons (ps_if (pt_not (pt_val (pe_call (E := E0) G_fits (hr.mono (by decide)) rfl g_fits k_fits b_fits .nil pass0 (pa_cons (pv 0) (pa_cons (pv 1) (pa_cons (pv 2) pa_nil)))))) (pss_one (L2N.ps_raise rfl (L2N.takes_of rfl rfl rfl rfl) (pmk1 TU I.ok I.bd (hr.mono (by decide)) rfl pe_int))) pss_nil) pss_never, ?_⟩
    refine ⟨_, rfl, _, rfl, _, rfl, x, ua, da, ls, ms, us, ds, rfl, ic, thin, lm, hu, hd, oku, okd, fun H1 s1 => ⟨_, rfl, ?_⟩⟩
    rw [fit]
    exact LK.ifT rfl (k.go s1)
theorem ok_ShX {f : Addr} {fd : FuncData} (F : Fun K "shown" "shown" sShX f fd) (B : Bl mg) {CU : Addr} (R : Pr2 P w K mg base CC)
    {f_check_lot : Addr} {d_check_lot : FuncData} (G_check_lot : FnOk P w K mg base CX0 4 f_check_lot d_check_lot ["lot", "many"] (spOkLot K)) (g_check_lot : mg "check_lot" = some (.ref f_check_lot)) (k_check_lot : PySem.W.keepIn K (.ref f_check_lot) = true) (b_check_lot : Binds K d_check_lot ["lot", "many"] [])
    {f_check_loop : Addr} {d_check_loop : FuncData} (G_check_loop : FnOk P w K mg base CX0 3 f_check_loop d_check_loop ["loop", "many"] spOkLoop) (g_check_loop : mg "check_loop" = some (.ref f_check_loop)) (k_check_loop : PySem.W.keepIn K (.ref f_check_loop) = true) (b_check_loop : Binds K d_check_loop ["loop", "many"] [])
    {f_surely : Addr} {d_surely : FuncData} (G_surely : FnOk P w K mg base (L2N.CX P w) 7 f_surely d_surely ["cloth", "stood", "ran"] (spSuX K CC CU)) (g_surely : mg "surely" = some (.ref f_surely)) (k_surely : PySem.W.keepIn K (.ref f_surely) = true) (b_surely : Binds K d_surely ["cloth", "stood", "ran"] []) : FnOk P w K mg base (L2N.CX P w) 8 f fd ["cloth", "stood", "ran", "loop"] (spShX K CC CU) := by
  refine F.okC scShX (fun vs H Q E h => ?_) (fun cdv A outer s H vs Q E hr h => ?_)
  · obtain ⟨x, ua, da, _, _, _, _, _, rfl, _⟩ := h
    rfl
  · obtain ⟨x, ua, da, ls, ms, us, ds, j, rfl, ic, thin, lm, hu, hd, oku, okd, jl, fit, k⟩ := h
    refine ⟨_, pss_cons (ps_expr (pe_call (E := E0) G_check_lot (hr.mono (by decide)) rfl g_check_lot k_check_lot b_check_lot .nil pass0 (pa_cons (pv 1) (pa_cons (pe_callB (call_lenO (E := E0) R.aN R.oN (hr.mono (by decide)) R.bN pass0) (by rfl) (B "len" (by decide)) (by decide +kernel) (pa_cons (pv 0) pa_nil)) pa_nil))))
      (pss_cons (ps_expr (pe_call (E := E0) G_check_lot (hr.mono (by decide)) rfl g_check_lot k_check_lot b_check_lot .nil pass0 (pa_cons (pv 2) (pa_cons (pe_callB (call_lenO (E := E0) R.aN R.oN (hr.mono (by decide)) R.bN pass0) (by rfl) (B "len" (by decide)) (by decide +kernel) (pa_cons (pv 0) pa_nil)) pa_nil))))
      (pss_cons (ps_expr (pe_call (E := E0) G_check_loop (hr.mono (by decide)) rfl g_check_loop k_check_loop b_check_loop .nil pass0 (pa_cons (pv 3) (pa_cons (pe_callB (call_lenO (E := E0) R.aN R.oN (hr.mono (by decide)) R.bN pass0) (by rfl) (B "len" (by decide)) (by decide +kernel) (pa_cons (pv 0) pa_nil)) pa_nil))))
      (pss_cons (ps_if (pt_cmpR op_notIn_seq (pv 3) (pe_ix (ixt (K := K)) (pe_call (E := E) G_surely (hr.mono (by decide)) rfl g_surely k_surely b_surely .nil (L2N.passes_call (L2N.takes_of rfl rfl rfl rfl) (fun _ _ _ _ z => z)) (pa_cons (pv 0) (pa_cons (pv 1) (pa_cons (pv 2) pa_nil)))) pe_int (fun _ _ => rfl)) (by rfl)) (pss_one (ps_ret pe_non)) pss_nil)
      (pss_one (ps_ret (pe_tup (pa_cons (pe_callB cr_sortedI (by rfl) (B "sorted" (by decide)) (by decide +kernel) (pa_cons (pv 2) pa_nil)) (pa_cons (pe_callB cr_sortedI (by rfl) (B "sorted" (by decide)) (by decide +kernel) (pa_cons (pe_op op_cat (pv 2) (pe_lst (pa_cons (pv 3) pa_nil))) pa_nil)) pa_nil)))))))), ?_⟩
    have ty2 : sizeLine = 16777216 := sizeLine_eq
    have ln := thin.1
    have ul := oku.len
    have dln := okd.len
    have len : ∀ {H'}, Same H H' → ∃ (dx L0 G0 : Addr) (xs : List V), H' x = some (.ins CC dx [("_loops", .ref L0), ("_fast", .ref G0)]) ∧ H' L0 = some (.lst xs) ∧ xs.length = ls.length := fun s => by
      obtain ⟨dx, L0, G0, xs, hx, hL, dl, hG⟩ := ic.same s
      exact ⟨dx, L0, G0, xs, hx, hL, by rw [dps_len dl, List.length_map]⟩
    obtain ⟨dx, L0, G0, xs, hx, hL, xl⟩ := len (Same.refl H)
    refine ⟨_, rfl, _, rfl, x, dx, _, rfl, hx, x, dx, L0, _, xs, rfl, hx, R.cc, R.n1, rfl, hL, _, rfl, by omega, by omega, ?_⟩
    refine ⟨ua, xs.length, us, rfl, hu, by rw [xl]; exact oku, by omega, fun H1 s1 => ?_⟩
    obtain ⟨dx, L0, G0, xs, hx, hL, xl⟩ := len s1
    refine ⟨_, rfl, _, rfl, x, dx, _, rfl, hx, x, dx, L0, _, xs, rfl, hx, R.cc, R.n1, rfl, hL, _, rfl, by omega, by omega, ?_⟩
    refine ⟨da, xs.length, ds, rfl, s1.seq hd, by rw [xl]; exact okd, by omega, fun H2 s2' => ?_⟩
    have s2 := s1.trans s2'
    obtain ⟨dx, L0, G0, xs, hx, hL, xl⟩ := len s2
    refine ⟨_, rfl, _, rfl, x, dx, _, rfl, hx, x, dx, L0, _, xs, rfl, hx, R.cc, R.n1, rfl, hL, _, rfl, by omega, by omega, ?_⟩
    refine ⟨(j : Int), (xs.length : Int), rfl, by omega, by omega, fun H3 s3' => ?_⟩
    have s3 := s2.trans s3'
    exact ⟨_, rfl, _, rfl, _, rfl, _, rfl, x, ua, da, ls, ms, us, ds, rfl, ic.same s3, thin, lm, s3.seq hu, s3.seq hd, oku, okd, fit, k.more s3⟩
end
end B7
/-! x not in range(..). -/
namespace MXt
open PySem PySem.Spec PyProof.Rows L2
section
variable {X : Cx} {a b : Expr} {ta : TE} {tr : L2.St → Hp → (Int → Int → Hp → Prop) → Prop} {pos : Pos}
def tNinRg (ta : TE) (tr : L2.St → Hp → (Int → Int → Hp → Prop) → Prop) : TE := fun σ H Q => ta σ H fun x H1 => ∃ k, x = V.int k ∧ tr σ H1 fun lo hi H2 => Q (.bl (!decide (lo ≤ k ∧ k < hi))) H2
theorem pe_ninRg (ha : PE X a ta) (hb : PRg X b tr) (hm : behindInMarks .NotIn b = false := by rfl) : PE X (.Compare a [.NotIn] [b] pos) (tNinRg ta tr) := by
  refine ⟨fun pins s σ H Q I h => ?_⟩
  refine wpAny_Compare1 (thn (ha.run pins s σ H _ I h) fun v s1 ⟨x, H1, I1, r1, q1⟩ => ?_) hm
  obtain ⟨k, rfl, q1⟩ := q1
  obtain ⟨tk, rfl⟩ := r1
  refine thn (hb pins s1 σ H1 _ I1 q1) fun u s2 q2 => ?_
  obtain ⟨r, lo, hi, t1, t2, t3, H2, rfl, ho, I2, q⟩ := q2
  exact NotIn_slot ⟨_, ho, rfl⟩ F.slot_range_contains (call_meets F.slot_range_contains ⟨_, ho, rfl⟩ F.entry_range_contains (F.args_range_contains_2 (.ref r) (.int k tk)) (q_contains r lo hi k t1 t2 t3 tk) ⟨ho, wpAny_truthy_bool ⟨.bl _, H2, I2, rfl, by rw [place1]; exact q⟩⟩)
theorem pt_ninRg (ha : PE X a ta) (hb : PRg X b tr) (hm : behindInMarks .NotIn b = false := by rfl) : PT X (.Compare a [.NotIn] [b] pos) (tTest (tNinRg ta tr)) := by
  refine ⟨fun pins s σ H Q I h => ?_⟩
  refine wpAny_isTrue_Compare1 (thn (ha.run pins s σ H _ I h) fun v s1 ⟨x, H1, I1, r1, q1⟩ => ?_) hm
  obtain ⟨k, rfl, q1⟩ := q1
  obtain ⟨tk, rfl⟩ := r1
  refine thn (hb pins s1 σ H1 _ I1 q1) fun u s2 q2 => ?_
  obtain ⟨r, lo, hi, t1, t2, t3, H2, rfl, ho, I2, b', e, q⟩ := q2
  cases e
  exact NotIn_slot ⟨_, ho, rfl⟩ F.slot_range_contains (call_meets F.slot_range_contains ⟨_, ho, rfl⟩ F.entry_range_contains (F.args_range_contains_2 (.ref r) (.int k tk)) (q_contains r lo hi k t1 t2 t3 tk) ⟨ho, wpAny_truthy_bool (wpAny_truthy_bool ⟨H2, I2, by rw [place1]; exact q⟩)⟩)
theorem lenK {K : PySem.W.Frag} (e : X.K = K := by rfl) : CallR X (.builtin "len") (fun xs H Q => ∃ p ys, xs = [V.ref p] ∧ (SqL K H p ys ∨ SqT K H p ys) ∧ Q (V.int ys.length) H) := e ▸ call_len_seq
end
end MXt
/-! _law_behind. -/
namespace B7
open PySem PySem.Spec PyProof.Rows L2 LK MXo MXi MXp MXr MXg MXt
abbrev sBeh : Stmt := top 40
theorem scBeh : FnScope ["here", "told", "spot", "stands", "seen", "upright", "one"] ["here", "told", "spot", "stands", "seen"] (defScope sBeh) := ⟨rfl, rfl, rfl, by decide +kernel, rfl, by decide +kernel, by decide +kernel⟩
def spBeh (K : PySem.W.Frag) : Sp := fun vs H Q _ => ∃ (ha ta sa la fa U D : Addr) (xs : List V) (ls : List Lp) (fs tl us ds : List Int) (j : Nat) (st : Bool), vs = [.ref ha, .ref ta, .int (j : Int), .bl st, .ref sa] ∧ H ha = some (.tup [.ref la, .ref fa]) ∧ H la = some (.lst xs) ∧ DpAll K H xs (ls.map lpD) ∧ H fa = some (.lst (fs.map V.int)) ∧ H ta = some (.lst (tl.map V.int)) ∧ tl.Pairwise (· < ·) ∧ OkFs ls.length tl ∧ decide (j ∈ upL ls fs tl ls.length) = st ∧ H sa = some (.tup [.ref U, .ref D]) ∧ H U = some (.lst (us.map V.int)) ∧ H D = some (.lst (ds.map V.int)) ∧
  (∀ z ∈ us, z ∈ cI (upL ls fs tl ls.length).reverse) ∧ (∀ z ∈ ds, z ∉ cI (upL ls fs tl ls.length).reverse) ∧ ls.length ≤ 60 ∧ ∀ H', Same H H' → Q (.bl true) H'
theorem iasc_eq {xs ys : List Int} (hx : xs.Pairwise (· < ·)) (hy : ys.Pairwise (· < ·)) (h : ∀ k, k ∈ xs ↔ k ∈ ys) : xs = ys := by
  have p : xs.Perm ys := (List.perm_ext_iff_of_nodup (hx.imp fun a => by omega) (hy.imp fun a => by omega)).mpr h
  exact List.Perm.eq_of_pairwise (le := fun a b => a ≤ b) (fun a b _ _ h1 h2 => Int.le_antisymm h1 h2) (hx.imp fun a => Int.le_of_lt a) (hy.imp fun a => Int.le_of_lt a) p
section
variable {P : Program} {w : World} {K : PySem.W.Frag} {mg : Str → Option Value} {base : Heap} {CC : Addr}
theorem ok_Beh {f : Addr} {fd : FuncData} (F : Fun K "_law_behind" "_law_behind" sBeh f fd) (B : Bl mg)
    {f__law_upright : Addr} {d__law_upright : FuncData} (G__law_upright : FnOk P w K mg base CX0 1 f__law_upright d__law_upright ["loops_here", "fast_here", "cuts_here"] (spUpr K)) (g__law_upright : mg "_law_upright" = some (.ref f__law_upright)) (k__law_upright : PySem.W.keepIn K (.ref f__law_upright) = true) (b__law_upright : Binds K d__law_upright ["loops_here", "fast_here", "cuts_here"] [])
    {f__law_matched : Addr} {d__law_matched : FuncData} (G__law_matched : FnOk P w K mg base CX0 6 f__law_matched d__law_matched ["found", "due"] (spM K 6)) (g__law_matched : mg "_law_matched" = some (.ref f__law_matched)) (k__law_matched : PySem.W.keepIn K (.ref f__law_matched) = true) (b__law_matched : Binds K d__law_matched ["found", "due"] []) : FnOk P w K mg base CX0 7 f fd ["here", "told", "spot", "stands", "seen"] (spBeh K) := by
  refine F.ok scBeh (fun vs H Q E h => ?_) (fun cdv A outer s H vs Q E hr h => ?_)
  · obtain ⟨ha, ta, sa, _, _, _, _, _, _, _, _, _, _, _, _, rfl, _⟩ := h
    rfl
  · obtain ⟨ha, ta, sa, la, fa, U, D, xs, ls, fs, tl, us, ds, j, st, rfl, hh, hl, dl, hf, ht, asc, okt, hst, hs, hU, hD, hu, hd, ln, k⟩ := h
    refine ⟨_, pss_cons (ps_if (PW.pt (pw_or (pt_not (pt_val (pe_callB call_isi (by rfl) (B "isinstance" (by decide)) (by decide +kernel) (pa_cons (pv 1) (pa_cons (pe_bltn (v := .ty "list") rfl (B "list" (by decide)) (by decide +kernel) rfl) pa_nil))))) (pw_or1 (pt_cmpR (op_neD hr.units) (pe_lc (own := [("one", 6)]) (g := gName 6) rfl scBeh.nd (pi_list (pv 1)) (blkOk_by (N := ["here", "told", "spot", "stands", "seen", "upright", "one"]) (sc := defScope sBeh) (by decide +kernel)) (fun _ _ _ _ _ => pg_name (i := 6) scBeh.nd rfl (Or.inl rfl)) (fun _ _ _ _ _ => pts_one (pt_ninRg (pv 6) (prg_1 (by rfl) (B "range" (by decide)) (pe_callB (lenK (K := K)) (by rfl) (B "len" (by decide)) (by decide +kernel) (pa_cons (pe_ix (ixt (K := K)) (pv 0) pe_int (fun _ _ => rfl)) pa_nil))) (by rfl))) (fun _ _ _ _ _ => pv 6)) (pe_lst pa_nil) (nomark _))))) (pss_one (ps_ret pe_bl)) pss_nil)
      (pss_cons (ps_set (i := 5) scBeh.nd rfl (Or.inr rfl) (pe_call (E := E0) G__law_upright (hr.mono (by decide)) rfl g__law_upright k__law_upright b__law_upright .nil pass0 (pa_cons (pe_ix (ixt (K := K)) (pv 0) pe_int (fun _ _ => rfl)) (pa_cons (pe_ix (ixt (K := K)) (pv 0) pe_int (fun _ _ => rfl)) (pa_cons (pv 1) pa_nil)))))
      (pss_cons (ps_if (PW.pt (pw_or (pt_not (pt_val (pe_call (E := E0) G__law_matched (hr.mono (by decide)) rfl g__law_matched k__law_matched b__law_matched .nil pass0 (pa_cons (pv 1) (pa_cons (pe_lc (own := [("one", 6)]) (g := gName 6) (tt := tYes) rfl scBeh.nd (pi_list (pe_callB (cr_sortR (w := w) rfl) (by rfl) (B "sorted" (by decide)) (by decide +kernel) (pa_cons (pe_callTy (cr_setR (K := K) (w := w) rfl) (by rfl) (B "set" (by decide)) (by decide +kernel) (pa_cons (pv 1) pa_nil)) pa_nil))) (blkOk_by (N := ["here", "told", "spot", "stands", "seen", "upright", "one"]) (sc := defScope sBeh) (by decide +kernel)) (fun _ _ _ _ _ => pg_name (i := 6) scBeh.nd rfl (Or.inl rfl)) (fun _ _ _ _ _ => pts_nil) (fun _ _ _ _ _ => pe_callTy call_int1 (by rfl) (B "int" (by decide)) (by decide +kernel) (pa_cons (pv 6) pa_nil))) pa_nil))))) (pw_or1 (pt_cmpR (op_neD hr.units) (pe_cmpR op_in_seq (pv 2) (pv 5) (by rfl)) (pv 3) (nomark _))))) (pss_one (ps_ret pe_bl)) pss_nil)
      (pss_cons (ps_if (pt_cmpR (op_neD hr.units) (pe_lc (own := [("one", 6)]) (g := gName 6) rfl scBeh.nd (pi_list (pe_ix (ixt (K := K)) (pv 4) pe_int (fun _ _ => rfl))) (blkOk_by (N := ["here", "told", "spot", "stands", "seen", "upright", "one"]) (sc := defScope sBeh) (by decide +kernel)) (fun _ _ _ _ _ => pg_name (i := 6) scBeh.nd rfl (Or.inl rfl)) (fun _ _ _ _ _ => pts_one (pt_cmpR (ninq (K := K)) (pv 6) (pv 5) (by rfl))) (fun _ _ _ _ _ => pv 6)) (pe_lst pa_nil) (nomark _)) (pss_one (ps_ret pe_bl)) pss_nil)
      (pss_one (ps_ret (pe_cmpR (op_eqD hr.units) (pe_lc (own := [("one", 6)]) (g := gName 6) rfl scBeh.nd (pi_list (pe_ix (ixt (K := K)) (pv 4) pe_int (fun _ _ => rfl))) (blkOk_by (N := ["here", "told", "spot", "stands", "seen", "upright", "one"]) (sc := defScope sBeh) (by decide +kernel)) (fun _ _ _ _ _ => pg_name (i := 6) scBeh.nd rfl (Or.inl rfl)) (fun _ _ _ _ _ => pts_one (pt_cmpR (inq (K := K)) (pv 6) (pv 5) (by rfl))) (fun _ _ _ _ _ => pv 6)) (pe_lst pa_nil) (nomark _))))))), ?_⟩
    have ty2 : sizeLine = 16777216 := sizeLine_eq
    have dT : Dp K H (.ref ta) (.list (tl.map PyData.int)) := .lst (SqL.of ht) (dp_ints_of _)
    have tn := okt.len
    have xl : xs.length = ls.length := by rw [dps_len dl, List.length_map]
    refine ⟨_, rfl, _, _, _, _, _, rfl, .ty "list", dp_ty dT, kit_d dT "list" (by decide), _, rfl, LK.ifF rfl ?_⟩
    refine ⟨_, rfl, ta, rfl, ⟨_, SqL.of ht⟩, fun J nJ => ?_⟩
    refine lc_list (K := K) (a := ta) (xs := tl.map V.int) (fun j H' => Same H H' ∧ H' J = some (.lst []))
      ⟨same_new nJ, upd_same⟩ (fun j H' hj hg => SqL.of (hg.1 _ _ ht)) (fun j y H' hy hg => ⟨rfl, ?_⟩) (fun H1 hg => ?_)
    · obtain ⟨sB, eJ⟩ := hg
      rw [List.getElem?_map] at hy
      obtain ⟨z, hz, rfl⟩ := Option.map_eq_some_iff.mp hy
      have zr := okt.2 z (List.mem_of_getElem? hz)
      refine ⟨_, rfl, z, rfl, _, rfl, ha, _, 0, _, rfl, rfl, SqT.of (sB _ _ hh), atI_nat (j := 0) rfl, la, _, rfl, .inl (SqL.of (sB _ _ hl)), _, rfl, _, rfl, LK.ifF ?_ ⟨sB, eJ⟩⟩
      rw [xl, decide_eq_true zr]
      rfl
    obtain ⟨s1, eJ⟩ := hg
    refine ⟨by show 0 ≤ sizeLine; decide, fun e ne => ?_⟩
    have s2' := same_new (o := .lst []) ne
    have s2 := s1.trans s2'
    refine ⟨.list [], .list [], .lst (SqL.of (s2' _ _ eJ)) .nil, .lst (SqL.of upd_same) .nil, sh_ints [], sh_ints [], _, rfl, LK.ifF rfl ?_⟩
    generalize upd H1 e (.lst []) = H2 at s2
    clear s2' ne eJ nJ s1
    refine ⟨_, rfl, ha, _, 0, _, rfl, rfl, SqT.of (s2 _ _ hh), atI_nat (j := 0) rfl, _, rfl, ha, _, 1, _, rfl, rfl, SqT.of (s2 _ _ hh), atI_nat (j := 1) rfl, _, rfl, ?_⟩
    refine ⟨la, fa, ta, xs, ls, fs, tl, rfl, SqL.of (s2 _ _ hl), dps_same s2 dl, SqL.of (s2 _ _ hf), SqL.of (s2 _ _ ht), by omega, fun up H3 nup s3' eup => ?_⟩
    have s3 := s2.trans s3'
    have ul := upL_len ls fs tl ls.length
    refine ⟨_, rfl, _, rfl, ta, tl, rfl, SqL.of (s3 _ _ ht), by omega, fun T c nT cl => ?_⟩
    have t1' := same_new (o := SetO w T (fun k => decide (k ∈ tl)) c) nT
    have cn := cl tl fun z h => h
    refine ⟨T, _, c, rfl, upd_same, by omega, fun ns q pw mem len nq => ?_⟩
    have t3 := t1'.trans (same_new (o := .lst (ns.map V.int)) nq)
    have t1 := s3.trans t3
    obtain rfl : ns = tl := iasc_eq pw asc fun z => (mem z).trans decide_eq_true_iff
    refine ⟨q, rfl, ⟨_, SqL.of upd_same⟩, fun J nJ => ?_⟩
    have eq4 := upd_same (H := upd H3 T (SetO w T (fun k => decide (k ∈ ns)) c)) (a := q) (o := .lst (ns.map V.int))
    generalize upd (upd H3 T (SetO w T (fun k => decide (k ∈ ns)) c)) q (.lst (ns.map V.int)) = H4 at *
    refine lc_list (K := K) (a := q) (xs := ns.map V.int) (fun j H' => Same H4 H' ∧ H' J = some (.lst ((ns.take j).map V.int)))
      ⟨same_new nJ, upd_same⟩ (fun j H' hj hg => SqL.of (hg.1 _ _ eq4)) (fun j y H' hy hg => ⟨rfl, ?_⟩) (fun H5 hg => ?_)
    · obtain ⟨sB, eJ⟩ := hg
      rw [List.getElem?_map] at hy
      obtain ⟨z, hz, rfl⟩ := Option.map_eq_some_iff.mp hy
      refine ⟨_, rfl, .inl ⟨z, rfl, _, eJ, by rw [List.length_map, List.length_take]; omega, fun b o e => ?_, ?_⟩⟩
      · rw [upd_ne (ne_of_none e nJ)]
        exact sB _ _ e
      · rw [upd_same, List.take_add_one, hz, Option.toList_some, List.map_append]
        rfl
    obtain ⟨s5', eJ⟩ := hg
    rw [List.length_map, List.take_length] at eJ
    have s5 := t1.trans s5'
    obtain ⟨la1, la2⟩ := lay_ints ns
    refine ⟨.ref ta, .ref J, .list (ns.map PyData.int), rfl, .lst (SqL.of (s5 _ _ ht)) (dp_ints_of _), .lst (SqL.of eJ) (dp_ints_of _), by simpa only [PyData.canLay0] using la1, by simp only [PyData.depth, la2]; omega, by simp only [PyData.depth, la2]; omega, ?_, fun H6 s6' => ⟨_, rfl, LK.ifF rfl ?_⟩⟩
    · unfold few
      rw [few_ints, Bool.and_true, List.length_map]
      exact decide_eq_true (by omega)
    have s6 := s5.trans s6'
    have eup6 := s6' _ _ (s5' _ _ (t3 _ _ eup))
    refine ⟨_, rfl, _, rfl, up, _, rfl, .inl (SqL.of eup6), rfl, flat_nI _, ?_⟩
    rw [inV_nI]
    have inu : decide (j ∈ (upL ls fs ns ls.length).reverse) = st := by rw [← hst]; exact decide_eq_decide.mpr List.mem_reverse
    rw [inu]
    refine ⟨_, rfl, ?_⟩
    refine ⟨.bool st, .bool st, .bl st, .bl st, rfl, rfl, _, rfl, LK.ifF (by cases st <;> rfl) ?_⟩
    refine ⟨_, rfl, sa, _, 0, _, rfl, rfl, SqT.of (s6 _ _ hs), atI_nat (j := 0) rfl, U, rfl, ⟨_, SqL.of (s6 _ _ hU)⟩, fun J0 nJ0 => ?_⟩
    refine lc_list (K := K) (a := U) (xs := us.map V.int) (fun j H' => Same H6 H' ∧ H' J0 = some (.lst []))
      ⟨same_new nJ0, upd_same⟩ (fun j H' hj hg => SqL.of (hg.1 _ _ (s6 _ _ hU))) (fun j y H' hy hg => ⟨rfl, ?_⟩) (fun H7 hg => ?_)
    · obtain ⟨sB, eJ⟩ := hg
      rw [List.getElem?_map] at hy
      obtain ⟨z, hz, rfl⟩ := Option.map_eq_some_iff.mp hy
      have hz' := List.mem_of_getElem? hz
      refine ⟨_, rfl, _, rfl, up, _, rfl, .inl (SqL.of (sB _ _ eup6)), rfl, flat_nI _, _, rfl, LK.ifF ?_ ⟨sB, eJ⟩⟩
      rw [nI_cI, inV_int]
      simp only [hu z hz', decide_true, decide_false, Bool.not_true]
      rfl
    obtain ⟨s7', eJ0⟩ := hg
    have s7 := s6.trans s7'
    refine ⟨by show 0 ≤ sizeLine; decide, fun e0 ne0 => ?_⟩
    have u0 := same_new (o := .lst []) ne0
    refine ⟨.list [], .list [], .lst (SqL.of (u0 _ _ eJ0)) .nil, .lst (SqL.of upd_same) .nil, sh_ints [], sh_ints [], ?_⟩
    refine ⟨_, rfl, LK.ifF rfl ?_⟩
    have s8 := s7.trans u0
    have eup8 := u0 _ _ (s7' _ _ eup6)
    generalize upd H7 e0 (.lst []) = H8 at s8 eup8
    refine ⟨_, rfl, sa, _, 1, _, rfl, rfl, SqT.of (s8 _ _ hs), atI_nat (j := 1) rfl, D, rfl, ⟨_, SqL.of (s8 _ _ hD)⟩, fun J1 nJ1 => ?_⟩
    refine lc_list (K := K) (a := D) (xs := ds.map V.int) (fun j H' => Same H8 H' ∧ H' J1 = some (.lst []))
      ⟨same_new nJ1, upd_same⟩ (fun j H' hj hg => SqL.of (hg.1 _ _ (s8 _ _ hD))) (fun j y H' hy hg => ⟨rfl, ?_⟩) (fun H9 hg => ?_)
    · obtain ⟨sB, eJ⟩ := hg
      rw [List.getElem?_map] at hy
      obtain ⟨z, hz, rfl⟩ := Option.map_eq_some_iff.mp hy
      have hz' := List.mem_of_getElem? hz
      refine ⟨_, rfl, _, rfl, up, _, rfl, .inl (SqL.of (sB _ _ eup8)), rfl, flat_nI _, _, rfl, LK.ifF ?_ ⟨sB, eJ⟩⟩
      rw [nI_cI, inV_int]
      simp only [hd z hz', decide_true, decide_false, Bool.not_true]
      rfl
    obtain ⟨s9', eJ1⟩ := hg
    have s9 := s8.trans s9'
    refine ⟨by show 0 ≤ sizeLine; decide, fun e1 ne1 => ?_⟩
    have u1 := same_new (o := .lst []) ne1
    refine ⟨.list [], .list [], .lst (SqL.of (u1 _ _ eJ1)) .nil, .lst (SqL.of upd_same) .nil, sh_ints [], sh_ints [], ?_⟩
    exact k _ (s9.trans u1)
end
end B7
/-! _law_sure_due. -/
namespace B7
open PySem PySem.Spec PyProof.Rows L2 LK MXo MXi MXp MXr MXg MXt
abbrev sDus : Stmt := top 51
theorem scDus : FnScope ["here", "seen", "gone", "k", "can_stand", "sure", "upright", "one"] ["here", "seen"] (defScope sDus) := ⟨rfl, rfl, rfl, by decide +kernel, rfl, by decide +kernel, by decide +kernel⟩
/-- what may stand yet -/
def canL (ls : List Lp) (fs ds : List Int) : List Nat := (List.range ls.length).filter fun k => decide (k ∉ fallD ls fs ds)
/-- one more cut: something that is seen to stand does not stand -/
def lostB (ls : List Lp) (fs us ds : List Int) (k : Nat) : Bool := !(us.filter fun z => decide (z ∉ cI (upL ls fs (ds ++ [(k : Int)]) ls.length).reverse)).isEmpty
def sureD (ls : List Lp) (fs us ds : List Int) : List Nat := (canL ls fs ds).filter (lostB ls fs us ds)
def openD (ls : List Lp) (fs us ds : List Int) : List Nat := (canL ls fs ds).filter fun k => !lostB ls fs us ds k
def spDus (K : PySem.W.Frag) : Sp := fun vs H Q _ => ∃ (ha sa la fa U D : Addr) (xs : List V) (ls : List Lp) (fs us ds : List Int), vs = [.ref ha, .ref sa] ∧ H ha = some (.tup [.ref la, .ref fa]) ∧ H la = some (.lst xs) ∧ DpAll K H xs (ls.map lpD) ∧ H fa = some (.lst (fs.map V.int)) ∧ H sa = some (.tup [.ref U, .ref D]) ∧ H U = some (.lst (us.map V.int)) ∧ H D = some (.lst (ds.map V.int)) ∧ OkFs ls.length us ∧ OkFs ls.length ds ∧ ls.length ≤ 60 ∧
  ∀ (p a b c : Addr) (H' : Hp), H p = none → H a = none → H b = none → H c = none → Same H H' → H' p = some (.tup [.ref a, .ref b, .ref c]) → H' a = some (.lst (nI (sureD ls fs us ds))) → H' b = some (.lst (nI (fallD ls fs ds))) → H' c = some (.lst (nI (openD ls fs us ds))) → Q (.ref p) H'
section
variable {P : Program} {w : World} {K : PySem.W.Frag} {mg : Str → Option Value} {base : Heap} {CC : Addr}
theorem ok_Dus {f : Addr} {fd : FuncData} (F : Fun K "_law_sure_due" "_law_sure_due" sDus f fd) (B : Bl mg)
    {f__law_fallen : Addr} {d__law_fallen : FuncData} (G__law_fallen : FnOk P w K mg base CX0 2 f__law_fallen d__law_fallen ["loops_here", "fast_here", "cuts_here"] (spFal K)) (g__law_fallen : mg "_law_fallen" = some (.ref f__law_fallen)) (k__law_fallen : PySem.W.keepIn K (.ref f__law_fallen) = true) (b__law_fallen : Binds K d__law_fallen ["loops_here", "fast_here", "cuts_here"] [])
    {f__law_upright : Addr} {d__law_upright : FuncData} (G__law_upright : FnOk P w K mg base CX0 1 f__law_upright d__law_upright ["loops_here", "fast_here", "cuts_here"] (spUpr K)) (g__law_upright : mg "_law_upright" = some (.ref f__law_upright)) (k__law_upright : PySem.W.keepIn K (.ref f__law_upright) = true) (b__law_upright : Binds K d__law_upright ["loops_here", "fast_here", "cuts_here"] []) : FnOk P w K mg base CX0 3 f fd ["here", "seen"] (spDus K) := by
  refine F.ok scDus (fun vs H Q E h => ?_) (fun cdv A outer s H vs Q E hr h => ?_)
  · obtain ⟨ha, sa, _, _, _, _, _, _, _, _, _, rfl, _⟩ := h
    rfl
  · obtain ⟨ha, sa, la, fa, U, D, xs, ls, fs, us, ds, rfl, hh, hl, dl, hf, hs, hU, hD, oku, okd, l60, k⟩ := h
    refine ⟨_, pss_cons (ps_set (i := 2) scDus.nd rfl (Or.inr rfl) (pe_call (E := E0) G__law_fallen (hr.mono (by decide)) rfl g__law_fallen k__law_fallen b__law_fallen .nil pass0 (pa_cons (pe_ix (ixt (K := K)) (pv 0) pe_int (fun _ _ => rfl)) (pa_cons (pe_ix (ixt (K := K)) (pv 0) pe_int (fun _ _ => rfl)) (pa_cons (pe_ix (ixt (K := K)) (pv 1) pe_int (fun _ _ => rfl)) pa_nil)))))
      (pss_cons (ps_setLc (i := 4) (own := [("k", 3)]) (g := gName 3) rfl scDus.nd rfl rfl (sw_true rfl rfl rfl (by decide +kernel)) (pi_range1 (by rfl) (B "range" (by decide)) (pa_cons (pe_callB call_len_seq (by rfl) (B "len" (by decide)) (by decide +kernel) (pa_cons (pe_ix (ixt (K := K)) (pv 0) pe_int (fun _ _ => rfl)) pa_nil)) pa_nil)) (blkOk_by (N := ["here", "seen", "gone", "k", "can_stand", "sure", "upright", "one"]) (sc := defScope sDus) (by decide +kernel)) (fun _ _ _ _ _ => pg_name (i := 3) scDus.nd rfl (Or.inl rfl)) (fun _ _ _ _ _ => pts_one (pt_cmpR (ninq (K := K)) (pv 3) (pv 2) (by rfl))) (fun _ _ _ _ _ => pv 3))
      (pss_cons (ps_set (i := 5) scDus.nd rfl (Or.inr rfl) (pe_lst pa_nil))
      (pss_cons (ps_for PassesOwn.never rfl (pi_list (pv 4)) (pg_name (i := 3) scDus.nd rfl (Or.inl rfl)) (pss_cons (ps_set (i := 6) scDus.nd rfl (Or.inr rfl) (pe_call (E := E0) G__law_upright (hr.mono (by decide)) rfl g__law_upright k__law_upright b__law_upright .nil pass0 (pa_cons (pe_ix (ixt (K := K)) (pv 0) pe_int (fun _ _ => rfl)) (pa_cons (pe_ix (ixt (K := K)) (pv 0) pe_int (fun _ _ => rfl)) (pa_cons (pe_op op_cat (pe_ix (ixt (K := K)) (pv 1) pe_int (fun _ _ => rfl)) (pe_lst (pa_cons (pv 3) pa_nil))) pa_nil)))))
      (pss_one (ps_if (pt_cmpR (op_neD hr.units) (pe_lc (own := [("one", 7)]) (g := gName 7) rfl scDus.nd (pi_list (pe_ix (ixt (K := K)) (pv 1) pe_int (fun _ _ => rfl))) (blkOk_by (N := ["here", "seen", "gone", "k", "can_stand", "sure", "upright", "one"]) (sc := defScope sDus) (by decide +kernel)) (fun _ _ _ _ _ => pg_name (i := 7) scDus.nd rfl (Or.inl rfl)) (fun _ _ _ _ _ => pts_one (pt_cmpR (ninq (K := K)) (pv 7) (pv 6) (by rfl))) (fun _ _ _ _ _ => pv 7)) (pe_lst pa_nil) (nomark _)) (pss_one (ps_expr (pe_bm PySem.F.plainAttrs_list PySem.F.slot_list_append PySem.F.type_list_append mt_append (pv 5) (pa_cons (pv 3) pa_nil)))) pss_nil))))
      (pss_one (ps_ret (pe_tup (pa_cons (pv 5) (pa_cons (pv 2) (pa_cons (pe_lc (own := [("k", 3)]) (g := gName 3) rfl scDus.nd (pi_list (pv 4)) (blkOk_by (N := ["here", "seen", "gone", "k", "can_stand", "sure", "upright", "one"]) (sc := defScope sDus) (by decide +kernel)) (fun _ _ _ _ _ => pg_name (i := 3) scDus.nd rfl (Or.inl rfl)) (fun _ _ _ _ _ => pts_one (pt_cmpR (ninq (K := K)) (pv 3) (pv 5) (by rfl))) (fun _ _ _ _ _ => pv 3)) pa_nil))))))))), ?_⟩
    have ty2 : sizeLine = 16777216 := sizeLine_eq
    have ul := oku.len
    have dln := okd.len
    have xl : xs.length = ls.length := by rw [dps_len dl, List.length_map]
    refine ⟨_, rfl, ha, _, 0, _, rfl, rfl, SqT.of hh, atI_nat (j := 0) rfl, _, rfl, ha, _, 1, _, rfl, rfl, SqT.of hh, atI_nat (j := 1) rfl, _, rfl, sa, _, 1, _, rfl, rfl, SqT.of hs, atI_nat (j := 1) rfl, ?_⟩
    refine ⟨la, fa, D, xs, ls, fs, ds, rfl, SqL.of hl, dl, SqL.of hf, SqL.of hD, by omega, fun G H1 nG s1 eG => ?_⟩
    refine ⟨_, rfl, ha, _, 0, _, rfl, rfl, SqT.of (s1 _ _ hh), atI_nat (j := 0) rfl, la, _, rfl, .inl (SqL.of (s1 _ _ hl)), _, rfl, by omega, by omega, fun C nC => ?_⟩
    refine lc_range (lo := 0) (n := xs.length) (fun j H' => Same H1 H' ∧ H' C = some (.lst (nI ((List.range j).filter fun k => decide (k ∉ fallD ls fs ds)))))
      ⟨same_new nC, upd_same⟩ (fun j H' hj hg => ⟨rfl, ?_⟩) (fun H2 hg => ?_)
    · obtain ⟨sB, eJ⟩ := hg
      refine ⟨_, rfl, _, rfl, G, _, rfl, .inl (SqL.of (sB _ _ eG)), rfl, flat_nI _, _, rfl, ?_⟩
      rw [Int.zero_add, filt_more]
      show if (!inV (.int (j : Int)) (nI (fallD ls fs ds))) = true then _ else _
      rw [inV_nI]
      have z := List.length_filter_le (fun k => decide (k ∉ fallD ls fs ds)) (List.range j)
      rw [List.length_range] at z
      by_cases c : j ∈ fallD ls fs ds
      · exact LK.ifF (by simp [c]) ⟨sB, by rw [eJ]; simp [c]⟩
      · refine LK.ifT (by simp [c]) ⟨_, rfl, _, eJ, by rw [List.length_map]; omega, fun b o e => ?_, ?_⟩
        · rw [upd_ne (ne_of_none e nC)]
          exact sB _ _ e
        · rw [upd_same]
          unfold nI
          rw [List.map_append]
          simp [c]
    obtain ⟨s2', eC⟩ := hg
    rw [xl] at eC
    have s2 := s1.trans s2'
    have cl := List.length_filter_le (fun k => decide (k ∉ fallD ls fs ds)) (List.range ls.length)
    rw [List.length_range] at cl
    have eG2 := s2' _ _ eG
    have nGH := gone s1 nC
    refine ⟨by show 0 ≤ sizeLine; decide, fun T nT => ?_⟩
    have t1 := same_new (o := .lst []) nT
    have eT := upd_same (H := H2) (a := T) (o := .lst [])
    have eC3 := t1 _ _ eC
    refine ⟨_, rfl, C, rfl, ⟨_, SqL.of eC3⟩, ?_⟩
    refine for_list (K := K) (a := C) (xs := nI (canL ls fs ds)) (fun i σ Hn => ∃ o3 o6 o7 : Option V, σ = [some (.ref ha), some (.ref sa), some (.ref G), o3, some (.ref C), some (.ref T), o6, o7] ∧ Same H2 Hn ∧ Hn T = some (.lst (nI (((canL ls fs ds).take i).filter (lostB ls fs us ds)))))
      ⟨_, _, _, rfl, t1, eT⟩ (fun i σ Hn hi hI => by obtain ⟨_, _, _, _, s, _⟩ := hI; exact SqL.of (s _ _ eC)) (fun i y σ Hn hy hI => ?_) (fun σ Hn hI => ?_)
    · obtain ⟨o3, o6, o7, rfl, s, eTn⟩ := hI
      rw [List.getElem?_map] at hy
      obtain ⟨j, hj, rfl⟩ := Option.map_eq_some_iff.mp hy
      have sn := s2.trans s
      dsimp only [gName, List.set, tSeq]
      refine ⟨_, rfl, ha, _, 0, _, rfl, rfl, SqT.of (sn _ _ hh), atI_nat (j := 0) rfl, _, rfl, ha, _, 1, _, rfl, rfl, SqT.of (sn _ _ hh), atI_nat (j := 1) rfl, _, rfl, sa, _, 1, _, rfl, rfl, SqT.of (sn _ _ hs), atI_nat (j := 1) rfl, _, rfl, by show 1 ≤ sizeLine; decide, fun q1 nq1 => ?_⟩
      have v1 := same_new (o := .lst [.int (j : Int)]) nq1
      refine ⟨D, q1, _, _, rfl, rfl, v1 _ _ (sn _ _ hD), upd_same, by simp only [List.length_map, List.length_cons, List.length_nil]; omega, fun q2 nq2 => ?_⟩
      have v2 := v1.trans (same_new (o := .lst (ds.map V.int ++ [.int (j : Int)])) nq2)
      have e2 : upd (upd Hn q1 (.lst [.int (j : Int)])) q2 (.lst (ds.map V.int ++ [.int (j : Int)])) q2 = some (.lst ((ds ++ [(j : Int)]).map V.int)) := by rw [upd_same, List.map_append]; rfl
      have s3 := sn.trans v2
      refine ⟨la, fa, q2, xs, ls, fs, ds ++ [(j : Int)], rfl, SqL.of (s3 _ _ hl), dps_same s3 dl, SqL.of (s3 _ _ hf), SqL.of e2, by omega, fun up H4 nup s4' eup => ?_⟩
      have s24 := v2.trans s4'
      have s4 := sn.trans s24
      have eT4 := s24 _ _ eTn
      refine ⟨_, rfl, sa, _, 0, _, rfl, rfl, SqT.of (s4 _ _ hs), atI_nat (j := 0) rfl, U, rfl, ⟨_, SqL.of (s4 _ _ hU)⟩, fun J nJ => ?_⟩
      refine lc_list (K := K) (a := U) (xs := us.map V.int) (fun j' H' => Same H4 H' ∧ H' J = some (.lst (((us.take j').filter fun z => decide (z ∉ cI (upL ls fs (ds ++ [(j : Int)]) ls.length).reverse)).map V.int)))
        ⟨same_new nJ, upd_same⟩ (fun j' H' hj' hg => SqL.of (hg.1 _ _ (s4 _ _ hU))) (fun j' y H' hy hg => ⟨rfl, ?_⟩) (fun H5 hg => ?_)
      · obtain ⟨sB, eJ⟩ := hg
        rw [List.getElem?_map] at hy
        obtain ⟨z, hz, rfl⟩ := Option.map_eq_some_iff.mp hy
        refine ⟨_, rfl, _, rfl, up, _, rfl, .inl (SqL.of (sB _ _ eup)), rfl, flat_nI _, _, rfl, ?_⟩
        show if (!inV (.int z) (nI (upL ls fs (ds ++ [(j : Int)]) ls.length).reverse)) = true then _ else _
        rw [nI_cI, inV_int, List.take_add_one, hz, Option.toList_some, List.filter_append]
        have lz := List.length_filter_le (fun z => decide (z ∉ cI (upL ls fs (ds ++ [(j : Int)]) ls.length).reverse)) (us.take j')
        rw [List.length_take] at lz
        by_cases c : z ∈ cI (upL ls fs (ds ++ [(j : Int)]) ls.length).reverse
        · exact LK.ifF (by rw [decide_eq_true c]; rfl) ⟨sB, by rw [eJ, List.filter_cons, if_neg (by rw [decide_eq_true_eq]; exact fun n => n c), List.filter_nil, List.append_nil]⟩
        · refine LK.ifT (by rw [decide_eq_false c]; rfl) ⟨_, rfl, _, eJ, by rw [List.length_map]; omega, fun b o e => ?_, ?_⟩
          · rw [upd_ne (ne_of_none e nJ)]
            exact sB _ _ e
          · rw [upd_same, List.map_append, List.filter_cons, if_pos (decide_eq_true c)]
            rfl
      obtain ⟨s5', eJ⟩ := hg
      rw [List.length_map, List.take_length] at eJ
      refine ⟨by show 0 ≤ sizeLine; decide, fun e ne => ?_⟩
      have u := same_new (o := .lst []) ne
      refine ⟨.list (_ : List PyData), .list [], .lst (SqL.of (u _ _ eJ)) (dp_ints_of _), .lst (SqL.of upd_same) .nil, sh_ints _, sh_ints [], _, rfl, ?_⟩
      rw [eqv_nili]
      have st : (canL ls fs ds).take (i + 1) = (canL ls fs ds).take i ++ [j] := by rw [List.take_add_one, hj]; rfl
      have s6' := (s24.trans s5').trans u
      have eT6 := u _ _ (s5' _ _ eT4)
      have s6 := s.trans s6'
      generalize upd H5 e (.lst []) = H6 at s6 eT6
      rw [st, List.filter_append]
      have lz := List.length_filter_le (lostB ls fs us ds) ((canL ls fs ds).take i)
      have lc : (canL ls fs ds).length ≤ ls.length := cl
      rw [List.length_take] at lz
      cases hb : lostB ls fs us ds j with
      | false =>
        refine LK.ifF hb ⟨_, _, _, rfl, s6, ?_⟩
        rw [eT6, List.filter_cons, hb]
        simp
      | true =>
        refine LK.ifT hb ⟨_, rfl, .inl ⟨rfl, _, SqL.of eT6⟩, _, rfl, T, _, _, rfl, rfl, eT6, by rw [List.length_map]; omega, _, _, _, rfl, fun b o e => ?_, ?_⟩
        · rw [upd_ne (ne_of_none e nT)]
          exact s6 _ _ e
        · rw [upd_same]
          unfold nI
          rw [List.map_append, List.filter_cons, hb]
          rfl
    · obtain ⟨o3, o6, o7, rfl, s, eTn⟩ := hI
      rw [show (nI (canL ls fs ds)).length = (canL ls fs ds).length from List.length_map _, List.take_length] at eTn
      have sn := s2.trans s
      refine ⟨_, rfl, _, rfl, _, rfl, C, rfl, ⟨_, SqL.of (s _ _ eC)⟩, fun O nO => ?_⟩
      refine lc_list (K := K) (a := C) (xs := nI (canL ls fs ds)) (fun j H' => Same Hn H' ∧ H' O = some (.lst (nI (((canL ls fs ds).take j).filter fun k => !lostB ls fs us ds k))))
        ⟨same_new nO, upd_same⟩ (fun j H' hj hg => SqL.of (hg.1 _ _ (s _ _ eC))) (fun j y H' hy hg => ⟨rfl, ?_⟩) (fun H5 hg => ?_)
      · obtain ⟨sB, eJ⟩ := hg
        rw [List.getElem?_map] at hy
        obtain ⟨q, hq, rfl⟩ := Option.map_eq_some_iff.mp hy
        refine ⟨_, rfl, _, rfl, T, _, rfl, .inl (SqL.of (sB _ _ eTn)), rfl, flat_nI _, _, rfl, ?_⟩
        show if (!inV (.int (q : Int)) (nI ((canL ls fs ds).filter (lostB ls fs us ds)))) = true then _ else _
        have qm := List.mem_of_getElem? hq
        have e0 : decide (q ∈ (canL ls fs ds).filter (lostB ls fs us ds)) = lostB ls fs us ds q := by
          rw [Bool.eq_iff_iff, decide_eq_true_eq, List.mem_filter]
          exact ⟨fun h => h.2, fun h => ⟨qm, h⟩⟩
        rw [inV_nI, e0, List.take_add_one, hq, Option.toList_some, List.filter_append]
        have lz := List.length_filter_le (fun k => !lostB ls fs us ds k) ((canL ls fs ds).take j)
        have lc : (canL ls fs ds).length ≤ ls.length := cl
        rw [List.length_take] at lz
        cases hb : lostB ls fs us ds q with
        | true => exact LK.ifF rfl ⟨sB, by rw [eJ]; simp [hb]⟩
        | false =>
          refine LK.ifT rfl ⟨_, rfl, _, eJ, by rw [List.length_map]; omega, fun b o e => ?_, ?_⟩
          · rw [upd_ne (ne_of_none e nO)]
            exact sB _ _ e
          · rw [upd_same]
            unfold nI
            rw [List.map_append]
            simp [hb]
      obtain ⟨s5', eO⟩ := hg
      rw [show (nI (canL ls fs ds)).length = (canL ls fs ds).length from List.length_map _, List.take_length] at eO
      refine ⟨by show 3 ≤ sizeLine; decide, fun p np => ?_⟩
      have v := same_new (o := .tup [.ref T, .ref G, .ref O]) np
      exact k p T G O _ (gone (sn.trans s5') np) (gone s2 nT) nG (gone sn nO) (sn.trans (s5'.trans v)) upd_same (v _ _ (s5' _ _ eTn)) (v _ _ (s5' _ _ (s _ _ eG2))) (v _ _ eO)
end
end B7
/-! xs[::n], n a written number above 0. -/
namespace MXu
open PySem PySem.Spec PyProof.Rows L2
/-- every n-th -/
def everyN {α : Type} (n : Int) (xs : List α) : List α := (sliceRange 0 xs.length n).filterMap fun k => xs[k]?
theorem vals_at : ∀ {xs : List V} {us : List Value} (r : Vals xs us) (k : Nat), (xs[k]? = none ∧ us[k]? = none) ∨ ∃ x u, xs[k]? = some x ∧ us[k]? = some u ∧ RelV x u
  | _, _, .nil, k => .inl ⟨by simp, by simp⟩
  | _, _, .cons r t, 0 => .inr ⟨_, _, rfl, rfl, r⟩
  | _, _, .cons r t, k + 1 => by
    simpa using vals_at t k
theorem vals_pick {xs : List V} {us : List Value} (r : Vals xs us) : ∀ R : List Nat, Vals (R.filterMap fun k => xs[k]?) (R.filterMap fun k => us[k]?)
  | [] => .nil
  | k :: R => by
    rcases vals_at r k with ⟨h1, h2⟩ | ⟨x, u, h1, h2, h⟩
    · rw [List.filterMap_cons, List.filterMap_cons, h1, h2]
      exact vals_pick r R
    · rw [List.filterMap_cons, List.filterMap_cons, h1, h2]
      exact .cons h (vals_pick r R)
theorem pick_n {n : Nat} (pos : 0 < n) (us : List Value) : slicePick us.toArray none none (some (n : Int)) = ((sliceRange 0 us.length n).filterMap fun k => us[k]?).toArray := by
  have e : sliceBounds none none (some (n : Int)) us.toArray.size = (0, (us.length : Int), (n : Int)) := by
    unfold sliceBounds
    simp only [Option.getD_some, List.size_toArray]
    rw [if_pos (by omega), if_pos (by omega)]
  unfold slicePick
  rw [e]
  simp
section
variable {X : Cx}
def tEach (K : PySem.W.Frag) (n : Nat) (te : TE) : TE := fun σ H Q => te σ H fun x H1 => ∃ a xs, x = .ref a ∧ SqL K H1 a xs ∧ (everyN (n : Int) xs).length ≤ sizeLine ∧ ∀ p, H1 p = none → Q (.ref p) (upd H1 p (.lst (everyN (n : Int) xs)))
theorem pe_each {e : Expr} {te : TE} {k n : Nat} {p1 p3 pos : Pos} (pos_ : 0 < n) (he : PE X e te) : PE X (.Subscript e (.Slice none none (some (.Constant (.int n) k p1)) p3) pos) (tEach X.K n te) := by
  refine ⟨fun pins s σ H Q I h => ?_⟩
  refine Subscript_ (thn (he.run pins s σ H _ I h) fun v s1 ⟨x, H1, I1, r1, q1⟩ => ?_)
  obtain ⟨a, xs, ex, hx, room, q⟩ := q1
  subst ex
  cases r1
  have hst : PO X (some (.Constant (.int n) k p1)) (tPart (tC (.int n))) := po_some pe_int
  refine wpAny_Slice (thn (po_none.run pins s1 σ H1 (fun o H2 => o = none ∧ H2 = H1) I1 ⟨rfl, rfl⟩) fun vl s2 ⟨l, H2, I2, pl, el, e2⟩ => ?_)
  subst el e2
  refine thn (po_none.run pins s2 σ H2 (fun o H3 => o = none ∧ H3 = H2) I2 ⟨rfl, rfl⟩) fun vu s3 ⟨u, H3, I3, pu, eu, e3⟩ => ?_
  subst eu e3
  refine thn (hst.run pins s3 σ H3 (fun o H4 => o = some (n : Int) ∧ H4 = H3) I3 ⟨n, rfl, rfl, rfl⟩) fun vs s4 ⟨o, H4, I4, ps, eo, e4⟩ => ?_
  subst eo e4
  have I5 : Inv X pins σ H4 { s4 with heap := s4.heap.push { cls := .type "slice", data := .fields #[vl, vu, vs] } } := I4.kept (t' := s4.toks) fun b ob q => Heap.get?_push_of_some _ q
  obtain ⟨its, r, ht, hz⟩ := I5.list hx
  have hlen := r.length
  show wpAny (model X.prog X.w) X.A (subscriptTail e (.Slice none none (some (.Constant (.int n) k p1)) p3) (.ref a) (.ref s4.heap.objs.size)) (EP X pins σ Q) X.xe { s4 with heap := s4.heap.push { cls := .type "slice", data := .fields #[vl, vu, vs] } }
  refine tail_any (ops := [.ref a, .ref s4.heap.objs.size]) ht.isList.typeIs (PySem.slot_list_getitem.lookup) ?_ (by with_unfolding_all rfl)
  refine wpAny_getItem_list_slice ht.isList (Heap.IsSliceOf.new _ vl vu vs) pl pu ps (by intro z; have := Option.some.inj z; omega) ?_ (by rw [List.size_toArray]; omega)
  rw [pick_n pos_, ← hlen]
  refine ⟨.ref _, _, I5.laid (t' := s4.toks) (o := .lst (everyN (n : Int) xs)) (fun b ob q => Heap.get?_push_of_some _ q) (Nat.le_refl _) ?_, rfl, q _ (I5.hok.fresh (Nat.le_refl _))⟩
  exact ⟨room, _, 0, vals_pick r _, Heap.get?_push_size _ rfl⟩
end
end MXu
/-! _law_ahead. -/
namespace B7
open PySem PySem.Spec PyProof.Rows L2 LK MXo MXi MXp MXr MXg MXt MXu
abbrev sAhd : Stmt := top 55
theorem scAhd : FnScope ["elder", "every", "some"] ["elder"] (defScope sAhd) := ⟨rfl, rfl, rfl, by decide +kernel, rfl, by decide +kernel, by decide +kernel⟩
theorem cut_lo {xs : List Int} {j : Nat} : cutV (xs.map V.int) none (some (j : Int)) = (xs.take j).map V.int := by
  unfold cutV
  have e0 : HT.sIx (xs.map V.int).length 0 none = 0 := rfl
  rw [e0, HT.sIx_nat, List.drop_zero, Nat.sub_zero, ← List.map_take, List.length_map]
  congr 1
  rcases Nat.le_total j xs.length with h | h
  · rw [Nat.min_eq_left h]
  · rw [Nat.min_eq_right h, List.take_of_length_le (Nat.le_refl _), List.take_of_length_le h]
theorem pick_lt : ∀ n : Nat, n ≤ 60 → ((sliceRange 0 (n : Int) 4).all fun k => decide (k < n)) = true ∧ (sliceRange 0 (n : Int) 4).Nodup := by decide +kernel
theorem every_range {n : Nat} (h : n ≤ 60) : ∃ r : List Int, everyN ((4 : Nat) : Int) ((cI (List.range n)).map V.int) = r.map V.int ∧ OkFs n r := by
  obtain ⟨a, b⟩ := pick_lt n h
  have lt : ∀ k ∈ sliceRange 0 (n : Int) 4, k < n := fun k hk => of_decide_eq_true (List.all_eq_true.mp a k hk)
  refine ⟨cI (sliceRange 0 (n : Int) 4), ?_, ?_⟩
  · unfold everyN
    rw [List.length_map, List.length_map, List.length_range]
    show List.filterMap _ (sliceRange 0 (n : Int) 4) = _
    have go : ∀ R : List Nat, (∀ k ∈ R, k < n) → (R.filterMap fun k => ((cI (List.range n)).map V.int)[k]?) = R.map (V.int ∘ fun k : Nat => (k : Int)) := fun R => by
      induction R with
      | nil => intro _; rfl
      | cons k R ih =>
        intro hR
        rw [List.filterMap_cons, List.getElem?_map, List.getElem?_map, List.getElem?_range (hR k List.mem_cons_self), List.map_cons, ← ih fun z hz => hR z (List.mem_cons_of_mem _ hz)]
        rfl
    refine (go _ lt).trans ?_
    rw [List.map_map]
  · refine ⟨List.Pairwise.map _ (fun a b (hab : a ≠ b) => by omega) b, fun z hz => ?_⟩
    obtain ⟨k, hk, rfl⟩ := List.mem_map.mp hz
    have := lt k hk
    omega
section
variable {P : Program} {w : World} {K : PySem.W.Frag} {mg : Str → Option Value} {base : Heap} {CC : Addr}
theorem ok_Ahd {f : Addr} {fd : FuncData} (F : Fun K "_law_ahead" "_law_ahead" sAhd f fd) (B : Bl mg) (R : Pr2 P w K mg base CC)
    {f_fits : Addr} {d_fits : FuncData} (G_fits : FnOk P w K mg base CX0 6 f_fits d_fits ["cloth", "stood", "ran"] (spFits K CC)) (g_fits : mg "fits" = some (.ref f_fits)) (k_fits : PySem.W.keepIn K (.ref f_fits) = true) (b_fits : Binds K d_fits ["cloth", "stood", "ran"] [])
    {f_least_run : Addr} {d_least_run : FuncData} (G_least_run : FnOk P w K mg base CX0 7 f_least_run d_least_run ["cloth", "stood", "ran"] (spLst K CC)) (g_least_run : mg "least_run" = some (.ref f_least_run)) (k_least_run : PySem.W.keepIn K (.ref f_least_run) = true) (b_least_run : Binds K d_least_run ["cloth", "stood", "ran"] [])
    {f_surely : Addr} {d_surely : FuncData} (G_surely : FnOk P w K mg base CX0 7 f_surely d_surely ["cloth", "stood", "ran"] (spSur K CC)) (g_surely : mg "surely" = some (.ref f_surely)) (k_surely : PySem.W.keepIn K (.ref f_surely) = true) (b_surely : Binds K d_surely ["cloth", "stood", "ran"] []) : FnOk P w K mg base CX0 9 f fd ["elder"] (spAhead K CC) := by
  refine F.ok scAhd (fun vs H Q E h => ?_) (fun cdv A outer s H vs Q E hr h => ?_)
  · obtain ⟨x, _, _, rfl, _⟩ := h
    rfl
  · obtain ⟨x, ls, ms, rfl, ic, rt, ln, okm, k⟩ := h
    refine ⟨_, pss_cons (ps_set (i := 1) scAhd.nd rfl (Or.inl rfl) (pe_listRg rfl (by rfl) (B "list" (by decide)) (prg_1 (by rfl) (B "range" (by decide)) (pe_callB (call_lenO (E := E0) R.aN R.oN (hr.mono (by decide)) R.bN pass0) (by rfl) (B "len" (by decide)) (by decide +kernel) (pa_cons (pv 0) pa_nil)))))
      (pss_one (ps_for PassesOwn.never rfl (pi_tup (pe_tup (pa_cons (pe_lst pa_nil) (pa_cons (pe_slice sl_list (pv 1) po_none (po_some pe_int)) (pa_cons (pe_each (n := 4) (by decide) (pv 1)) pa_nil))))) (pg_name (i := 2) scAhd.nd rfl (Or.inl rfl)) (pss_cons (ps_expr (pe_call (E := E0) G_fits (hr.mono (by decide)) rfl g_fits k_fits b_fits .nil pass0 (pa_cons (pv 0) (pa_cons (pe_lst pa_nil) (pa_cons (pv 2) pa_nil)))))
      (pss_cons (ps_expr (pe_call (E := E0) G_least_run (hr.mono (by decide)) rfl g_least_run k_least_run b_least_run .nil pass0 (pa_cons (pv 0) (pa_cons (pe_lst pa_nil) (pa_cons (pv 2) pa_nil)))))
      (pss_one (ps_expr (pe_call (E := E0) G_surely (hr.mono (by decide)) rfl g_surely k_surely b_surely .nil pass0 (pa_cons (pv 0) (pa_cons (pe_lst pa_nil) (pa_cons (pv 2) pa_nil)))))))))), ?_⟩
    have ty2 : sizeLine = 16777216 := sizeLine_eq
    have lm := okm.len
    have thin := rt.thin (by omega)
    have par := rt.par
    obtain ⟨dx, L0, G0, xs, hx, hL, dl, hG⟩ := id ic
    have xl : xs.length = ls.length := by rw [dps_len dl, List.length_map]
    refine ⟨_, rfl, x, dx, _, rfl, hx, x, dx, L0, _, xs, rfl, hx, R.cc, R.n1, rfl, hL, _, rfl, by omega, by omega, _, rfl, RgOk.of_le (by omega) (by omega) (by omega) (by omega), fun N nN => ?_⟩
    have rgE : rgV 0 (xs.length : Int) = (cI (List.range ls.length)).map V.int := by
      unfold rgV
      rw [List.map_map, show ((xs.length : Int) - 0).toNat = ls.length by omega]
      refine List.map_congr_left fun k _ => ?_
      show V.int (0 + (k : Int)) = V.int (k : Int)
      rw [Int.zero_add]
    rw [rgE]
    have t1 := same_new (o := .lst ((cI (List.range ls.length)).map V.int)) nN
    have eN := upd_same (H := H) (a := N) (o := .lst ((cI (List.range ls.length)).map V.int))
    generalize upd H N (.lst ((cI (List.range ls.length)).map V.int)) = H1 at t1 eN
    refine ⟨by show 0 ≤ sizeLine; decide, fun p1 n1 => ?_⟩
    have u1 := same_new (o := .lst []) n1
    refine ⟨_, rfl, _, rfl, N, _, rfl, SqL.of (u1 _ _ eN), fun p2 n2 => ?_⟩
    rw [show (1 : Int) = ((1 : Nat) : Int) from rfl, cut_lo]
    have u2' := same_new (o := .lst (((cI (List.range ls.length)).take 1).map V.int)) n2
    have u2 := u1.trans u2'
    obtain ⟨r4, e4, ok4⟩ := every_range (n := ls.length) (by omega)
    refine ⟨_, rfl, N, _, rfl, SqL.of (u2 _ _ eN), ?_, ?_⟩
    · rw [e4, List.length_map]
      have := ok4.len
      omega
    rw [e4]
    intro p3 n3
    have u3' := same_new (o := .lst (r4.map V.int)) n3
    have u3 := u2.trans u3'
    refine ⟨by show 3 ≤ sizeLine; decide, fun t nt => ?_⟩
    have u4' := same_new (o := .tup [.ref p1, .ref p2, .ref p3]) nt
    have s4 := t1.trans (u3.trans u4')
    have f1 := u4' _ _ (u3' _ _ (u2' _ _ (upd_same (H := H1) (a := p1) (o := .lst []))))
    have f2 := u4' _ _ (u3' _ _ (upd_same (H := upd H1 p1 (.lst [])) (a := p2) (o := .lst (((cI (List.range ls.length)).take 1).map V.int))))
    have f3 := u4' _ _ (upd_same (H := upd (upd H1 p1 (.lst [])) p2 (.lst (((cI (List.range ls.length)).take 1).map V.int))) (a := p3) (o := .lst (r4.map V.int)))
    have ft := upd_same (H := upd (upd (upd H1 p1 (.lst [])) p2 (.lst (((cI (List.range ls.length)).take 1).map V.int))) p3 (.lst (r4.map V.int))) (a := t) (o := .tup [.ref p1, .ref p2, .ref p3])
    generalize upd (upd (upd (upd H1 p1 (.lst [])) p2 (.lst (((cI (List.range ls.length)).take 1).map V.int))) p3 (.lst (r4.map V.int))) t (.tup [.ref p1, .ref p2, .ref p3]) = H4 at s4 f1 f2 f3 ft
    have okR : OkFs ls.length ((cI (List.range ls.length)).take 1) := by
      have : OkFs ls.length (cI (List.range ls.length)) := by
        refine ⟨(cI_asc List.pairwise_lt_range).imp fun a => by omega, fun z hz => ?_⟩
        obtain ⟨k, hk, rfl⟩ := List.mem_map.mp hz
        have := List.mem_range.mp hk
        omega
      exact this.take 1
    refine ⟨t, rfl, ⟨_, .inl (.inl ft)⟩, ?_⟩
    refine for_tup (K := K) (a := t) (xs := [.ref p1, .ref p2, .ref p3]) (fun i σ Hn => ∃ o2 : Option V, σ = [some (.ref x), some (.ref N), o2] ∧ Same H4 Hn) ⟨_, rfl, Same.refl H4⟩ (fun i σ Hn hi hI => by obtain ⟨_, _, s⟩ := hI; exact .inl (.inl (s _ _ ft))) (fun i y σ Hn hy hI => ?_) (fun σ Hn hI => ?_)
    · obtain ⟨o2, rfl, s⟩ := hI
      obtain ⟨q, cs, rfl, eq, okc⟩ : ∃ (q : Addr) (cs : List Int), y = .ref q ∧ Hn q = some (.lst (cs.map V.int)) ∧ OkFs ls.length cs := by
        match i, hy with
        | 0, hy => exact ⟨p1, [], (Option.some.inj hy).symm, s _ _ f1, OkFs.nil⟩
        | 1, hy => exact ⟨p2, _, (Option.some.inj hy).symm, s _ _ f2, okR⟩
        | 2, hy => exact ⟨p3, _, (Option.some.inj hy).symm, s _ _ f3, ok4⟩
      have s5 := s4.trans s
      refine ⟨_, rfl, by show 0 ≤ sizeLine; decide, fun e1 m1 => ?_⟩
      have w1' := same_new (o := .lst []) m1
      have w1 := s.trans w1'
      refine ⟨_, rfl, x, e1, q, ls, ms, [], cs, rfl, ic.same (s4.trans w1), thin, by omega, SqL.of upd_same, SqL.of (w1' _ _ eq), OkFs.nil, okc, fun H5 s5 => ?_⟩
      have w2 := w1.trans s5
      have eq5 := s5 _ _ (w1' _ _ eq)
      refine ⟨_, rfl, by show 0 ≤ sizeLine; decide, fun e2 m2 => ?_⟩
      have w3' := same_new (o := .lst []) m2
      have w3 := w2.trans w3'
      have last : ∀ (H6 : Hp) (D : Hp → Prop), Same (upd H5 e2 (.lst [])) H6 → (∀ H', Same H6 H' → D H') → ∀ e3, H6 e3 = none → spSur K CC [.ref x, .ref e3, .ref q] (upd H6 e3 (.lst [])) (fun _ H' => D H') E0 := fun H6 D s6 g e3 m3 => by
        have w4' := same_new (o := .lst []) m3
        exact ⟨x, e3, q, ls, ms, [], cs, rfl, ic.same (s4.trans ((w3.trans s6).trans w4')), thin, by omega, SqL.of upd_same, SqL.of (w4' _ _ (s6 _ _ (w3' _ _ eq5))), OkFs.nil, okc, par, by omega, rfl, fun _ _ _ _ _ _ _ H7 _ _ _ _ s7 _ _ _ _ => g _ (w4'.trans s7)⟩
      refine ⟨_, rfl, x, e2, q, ls, ms, [], cs, rfl, ic.same (s4.trans w3), thin, by omega, SqL.of upd_same, SqL.of (w3' _ _ eq5), OkFs.nil, okc, fun _ p6 H6 _ s6 _ => ?_, fun _ H6 s6 => ?_⟩
      · exact ⟨_, rfl, by show 0 ≤ sizeLine; decide, fun e3 m3 => ⟨_, rfl, last H6 (fun H' => ∃ o2 : Option V, ([some (.ref x), some (.ref N), some (.ref q)] : L2.St) = [some (.ref x), some (.ref N), o2] ∧ Same H4 H') s6 (fun H' s7 => ⟨_, rfl, w3.trans (s6.trans s7)⟩) e3 m3⟩⟩
      · exact ⟨_, rfl, by show 0 ≤ sizeLine; decide, fun e3 m3 => ⟨_, rfl, last H6 (fun H' => ∃ o2 : Option V, ([some (.ref x), some (.ref N), some (.ref q)] : L2.St) = [some (.ref x), some (.ref N), o2] ∧ Same H4 H') s6 (fun H' s7 => ⟨_, rfl, w3.trans (s6.trans s7)⟩) e3 m3⟩⟩
    · obtain ⟨o2, rfl, s⟩ := hI
      exact k _ (s4.trans s)
end
end B7
/-! _law_unfit. -/
namespace B7
open PySem PySem.Spec PyProof.Rows L2 L2H LK RZ MXo MXi MXp MXr MXb MXd MXe MXf MXg MXj MXl
abbrev sUnf : Stmt := top 52
theorem scUnf : FnScope ["web", "up", "down", "way", "found", "e"] ["web", "up", "down", "way"] (defScope sUnf) := ⟨rfl, rfl, rfl, by decide +kernel, rfl, by decide +kernel, by decide +kernel⟩
def spUnf (K : PySem.W.Frag) (CC : Addr) : Sp := fun vs H Q _ => ∃ (x U D : Addr) (ls : List Lp) (ms us ds : List Int) (way : Int), vs = [.ref x, .ref U, .ref D, .int way] ∧ IsC K CC H x ls ms ∧ Thin ls ∧ ms.length ≤ 100 ∧ SqL K H U (us.map V.int) ∧ SqL K H D (ds.map V.int) ∧ OkFs ls.length us ∧ OkFs ls.length ds ∧ 0 < ls.length ∧ fitsD ls ms us ds = false ∧
  ∀ (p : Addr) (H' : Hp), H p = none → Same H H' → H' p = some (.lst [.str "unfit", .int 0]) → Q (.ref p) H'
def tRs (K : PySem.W.Frag) (CU : Addr) : Addr → Addr → Addr → TS := fun a C d =>
  tAsg (tLst (tCons (tC (.str "unfit")) (tCons (tXf a (.ref C) (some d) CU "value" (tVar 5)) tNil))) (gName 4)
abbrev tSn : TA → TA := fun more => tCons (tVar 0) (tCons (tVar 1) (tCons (tVar 2) more))
section
variable {P : Program} {w : World} {K : PySem.W.Frag} {mg : Str → Option Value} {base : Heap} {CC fI CU : Addr}
theorem ok_Unf {f fS fH : Addr} {fd dS dH : FuncData} (F : Fun K "_law_unfit" "_law_unfit" sUnf f fd) (B : Bl mg) (XU : XC K mg fI CU "Unfit" "value") (uu : PySem.W.exmOne K (.ref CU) (.ref CU) = some true)
    (GS : FnOk P w K mg base (L2N.CX P w) 7 fS dS ["cloth", "stood", "ran"] (spSuX K CC CU)) (gS : mg "surely" = some (.ref fS)) (kS : PySem.W.keepIn K (.ref fS) = true) (bS : Binds K dS ["cloth", "stood", "ran"] [])
    (GH : FnOk P w K mg base (L2N.CX P w) 8 fH dH ["cloth", "stood", "ran", "loop"] (spShX K CC CU)) (gH : mg "shown" = some (.ref fH)) (kH : PySem.W.keepIn K (.ref fH) = true) (bH : Binds K dH ["cloth", "stood", "ran", "loop"] []) : FnOk P w K mg base CX0 9 f fd ["web", "up", "down", "way"] (spUnf K CC) := by
  refine F.ok scUnf (fun vs H Q E h => ?_) (fun cdv A outer s H vs Q E hr h => ?_)
  · obtain ⟨x, U, D, _, _, _, _, _, rfl, _⟩ := h
    rfl
  · obtain ⟨x, U, D, ls, ms, us, ds, way, rfl, ic, thin, lm, hU, hD, oku, okd, l0, fit, k⟩ := h
    refine ⟨_, pss_cons (ps_set (i := 4) scUnf.nd rfl (Or.inl rfl) pe_non)
      (pss_cons (L2N.ps_try_asL (i := 5) (l := [(.ref CU, tErr (tRs K CU))])
          (tb := fun W => tAsg (tIf (tTest (tOp rEq (tVar 3) (tC (.int 0)))) (tCallS (spSuX K CC CU) (WE W) (tSn tNil)) (tCallS (spShX K CC CU) (WE W) (tSn (tCons (tC (.int 0)) tNil)))) (gName 4)) (out := fun _ _ _ _ => False) rfl rfl scUnf.nd rfl rfl none0
          (fun W held xe tk _ => pss_one (ps_set (i := 4) scUnf.nd rfl (Or.inl rfl) (by exact (pe_ifExp (tA := tTest (tOp rEq (tVar 3) (tC (.int 0)))) (by exact (pt_cmpR op_eq (pv 3) pe_int (nomark _)))
            (by exact (pe_callS GS (hr.mono (by decide)) rfl gS kS bS (fun σ => L2N.passAt tk σ) (by exact (pa_cons (pv 0) (pa_cons (pv 1) (pa_cons (pv 2) pa_nil))))))
            (by exact (pe_callS GH (hr.mono (by decide)) rfl gH kH bH (fun σ => L2N.passAt tk σ) (by exact (pa_cons (pv 0) (pa_cons (pv 1) (pa_cons (pv 2) (pa_cons pe_int pa_nil))))))))))) 
          (.cons ⟨rfl, by decide, Or.inl XU.gC⟩ (fun e o k d held hz hf => ps_err hz hf fun C dd ep =>
            pss_one (ps_set (i := 4) scUnf.nd rfl (Or.inl rfl) (by exact (pe_lst (pa_cons pe_str (pa_cons (pe_xf XU.xf XU.noF ep.z hf (pv 5)) pa_nil)))))) .nil))
      (pss_one (ps_ret (pv 4)))), ?_⟩
    have ty2 : sizeLine = 16777216 := sizeLine_eq
    have out : ∀ {D' : Ends}, (∀ p H3, H p = none → Same H H3 → H3 p = some (.lst [.str "unfit", .int 0]) → D'.nx [some (.ref x), some (.ref U), some (.ref D), some (.int way), some (.ref p), none] H3) → Out CU H (WE (L2N.wL K 5 (fun _ _ _ _ => False) D' [(.ref CU, tErr (tRs K CU))]) [some (.ref x), some (.ref U), some (.ref D), some (.int way), some .non, none]) (.int 0) := fun {D'} g dd H2 nd s2 hd => by
      refine ⟨true, uu, fun _ a na => ?_, fun q => (nomatch q)⟩
      dsimp only [tErr, tRs]
      refine ⟨_, rfl, rfl, rfl, dd, _, _, rfl, hd, rfl, (by show 2 ≤ sizeLine; decide), fun p np => ?_⟩
      exact g p _ (gone s2 np) (s2.trans (same_new np)) upd_same
    refine ⟨_, rfl, rfl, _, rfl, ?_⟩
    by_cases w0 : way = 0
    · refine LK.ifT (by simp [w0]) ⟨_, rfl, _, rfl, _, rfl, ?_⟩
      exact ⟨x, U, D, ls, ms, us, ds, rfl, ic, thin, lm, hU, hD, oku, okd, fit, out fun p H3 np s3 ep => ⟨_, rfl, k p H3 np s3 ep⟩⟩
    · refine LK.ifF (by simp [w0]) ⟨_, rfl, _, rfl, _, rfl, ?_⟩
      exact ⟨x, U, D, ls, ms, us, ds, 0, rfl, ic, thin, lm, hU, hD, oku, okd, l0, fit, out fun p H3 np s3 ep => ⟨_, rfl, k p H3 np s3 ep⟩⟩
end
end B7
/-! _law_contrary_right. -/
namespace B7
open PySem PySem.Spec PyProof.Rows L2 LK MXo MXi MXp MXr MXg MXt MXu
abbrev sCtr : Stmt := top 53
theorem scCtr : FnScope ["creel", "web", "here", "up", "down", "fell", "one", "more", "due", "k"] ["creel", "web", "here", "up", "down"] (defScope sCtr) := ⟨rfl, rfl, rfl, by decide +kernel, rfl, by decide +kernel, by decide +kernel⟩
def spCtr (K : PySem.W.Frag) (CC : Addr) : Sp := fun vs H Q _ => ∃ (c x ha U D la fa : Addr) (xs : List V) (ls : List Lp) (fs ms us ds : List Int) (N : Nat), vs = [.ref c, .ref x, .ref ha, .ref U, .ref D] ∧ CR H c N ∧ N + 10000 < 10 ^ 12 ∧ (∀ H', Bt c H H' → IsC K CC H' x ls ms) ∧ (∀ y, y ∈ ms ↔ y ∈ fs) ∧ Par ls ∧ ls.length ≤ 60 ∧ Thin ls ∧ ms.length ≤ 100 ∧ H ha = some (.tup [.ref la, .ref fa]) ∧ H la = some (.lst xs) ∧ DpAll K H xs (ls.map lpD) ∧ H fa = some (.lst (fs.map V.int)) ∧ la ≠ c ∧ fa ≠ c ∧ U ≠ c ∧ D ≠ c ∧ H U = some (.lst (us.map V.int)) ∧ H D = some (.lst (ds.map V.int)) ∧ OkFs ls.length us ∧ OkFs ls.length ds ∧
  ∀ H', CR H' c (N + 5000) → Bt c H H' → Q (.bl true) H'
/-- what fits: nothing that is seen to stand has run -/
theorem fit_fell {ls : List Lp} {fs ms us ds : List Int} (h : ∀ y, y ∈ ms ↔ y ∈ fs) (oku : OkFs ls.length us) : fitsD ls ms us ds = (us.filter fun z => decide (z ∈ cI (fallD ls fs ds))).isEmpty := by
  rw [Bool.eq_iff_iff, List.isEmpty_iff, List.filter_eq_nil_iff]
  unfold fitsD
  rw [List.all_eq_true]
  constructor
  · intro f z hz m
    obtain ⟨k, hk, rfl⟩ := List.mem_map.mp (of_decide_eq_true m)
    rw [← fall_ms h] at hk
    exact (fall_mem.mp hk).2 (memI.mp (of_decide_eq_true (f _ hz)))
  · intro f z hz
    have r := oku.2 z hz
    obtain ⟨k, rfl⟩ := Int.eq_ofNat_of_zero_le r.1
    refine decide_eq_true (memI.mpr (Classical.byContradiction fun n => f _ hz (decide_eq_true (memI.mpr ?_))))
    rw [← fall_ms h]
    exact fall_mem.mpr ⟨by omega, n⟩
section
variable {P : Program} {w : World} {K : PySem.W.Frag} {mg : Str → Option Value} {base : Heap} {CC : Addr}
theorem ok_Ctr {f : Addr} {fd : FuncData} (F : Fun K "_law_contrary_right" "_law_contrary_right" sCtr f fd) (B : Bl mg)
    {f_fits : Addr} {d_fits : FuncData} (G_fits : FnOk P w K mg base CX0 6 f_fits d_fits ["cloth", "stood", "ran"] (spFits K CC)) (g_fits : mg "fits" = some (.ref f_fits)) (k_fits : PySem.W.keepIn K (.ref f_fits) = true) (b_fits : Binds K d_fits ["cloth", "stood", "ran"] [])
    {f_least_run : Addr} {d_least_run : FuncData} (G_least_run : FnOk P w K mg base CX0 7 f_least_run d_least_run ["cloth", "stood", "ran"] (spLst K CC)) (g_least_run : mg "least_run" = some (.ref f_least_run)) (k_least_run : PySem.W.keepIn K (.ref f_least_run) = true) (b_least_run : Binds K d_least_run ["cloth", "stood", "ran"] [])
    {f__law_fallen : Addr} {d__law_fallen : FuncData} (G__law_fallen : FnOk P w K mg base CX0 2 f__law_fallen d__law_fallen ["loops_here", "fast_here", "cuts_here"] (spFal K)) (g__law_fallen : mg "_law_fallen" = some (.ref f__law_fallen)) (k__law_fallen : PySem.W.keepIn K (.ref f__law_fallen) = true) (b__law_fallen : Binds K d__law_fallen ["loops_here", "fast_here", "cuts_here"] [])
    {f__law_some_of : Addr} {d__law_some_of : FuncData} (G__law_some_of : FnOk P w K mg base CX0 2 f__law_some_of d__law_some_of ["creel", "count", "most"] (spSome K)) (g__law_some_of : mg "_law_some_of" = some (.ref f__law_some_of)) (k__law_some_of : PySem.W.keepIn K (.ref f__law_some_of) = true) (b__law_some_of : Binds K d__law_some_of ["creel", "count", "most"] [])
    {f__law_unfit : Addr} {d__law_unfit : FuncData} (G__law_unfit : FnOk P w K mg base CX0 9 f__law_unfit d__law_unfit ["web", "up", "down", "way"] (spUnf K CC)) (g__law_unfit : mg "_law_unfit" = some (.ref f__law_unfit)) (k__law_unfit : PySem.W.keepIn K (.ref f__law_unfit) = true) (b__law_unfit : Binds K d__law_unfit ["web", "up", "down", "way"] [])
    {f__law_matched : Addr} {d__law_matched : FuncData} (G__law_matched : FnOk P w K mg base CX0 6 f__law_matched d__law_matched ["found", "due"] (spM K 6)) (g__law_matched : mg "_law_matched" = some (.ref f__law_matched)) (k__law_matched : PySem.W.keepIn K (.ref f__law_matched) = true) (b__law_matched : Binds K d__law_matched ["found", "due"] []) : FnOk P w K mg base CX0 10 f fd ["creel", "web", "here", "up", "down"] (spCtr K CC) := by
  refine F.ok scCtr (fun vs H Q E h => ?_) (fun cdv A outer s H vs Q E hr h => ?_)
  · obtain ⟨c, x, ha, U, D, _, _, _, _, _, _, _, _, _, rfl, _⟩ := h
    rfl
  · obtain ⟨c, x, ha, U, D, la, fa, xs, ls, fs, ms, us, ds, N, rfl, cr, room, ic, hms, par, l60, thin, lm, hh, hl, dl, hf, la1, fa1, U1, D1, hU, hD, oku, okd, k⟩ := h
    refine ⟨_, pss_cons (ps_set (i := 5) scCtr.nd rfl (Or.inr rfl) (pe_call (E := E0) G__law_fallen (hr.mono (by decide)) rfl g__law_fallen k__law_fallen b__law_fallen .nil pass0 (pa_cons (pe_ix (ixt (K := K)) (pv 2) pe_int (fun _ _ => rfl)) (pa_cons (pe_ix (ixt (K := K)) (pv 2) pe_int (fun _ _ => rfl)) (pa_cons (pv 4) pa_nil)))))
      (pss_cons (ps_for PassesOwn.never rfl (pi_list (pe_call (E := E0) G__law_some_of (hr.mono (by decide)) rfl g__law_some_of k__law_some_of b__law_some_of .nil pass0 (pa_cons (pv 0) (pa_cons (pe_callB call_len_seq (by rfl) (B "len" (by decide)) (by decide +kernel) (pa_cons (pe_ix (ixt (K := K)) (pv 2) pe_int (fun _ _ => rfl)) pa_nil)) (pa_cons pe_int pa_nil))))) (pg_name (i := 6) scCtr.nd rfl (Or.inl rfl)) (pss_cons (ps_set (i := 7) scCtr.nd rfl (Or.inl rfl) (pe_op op_cat (pv 3) (pe_op op_rep (pe_lst (pa_cons (pv 6) pa_nil)) (pe_callTy call_int1 (by rfl) (B "int" (by decide)) (by decide +kernel) (pa_cons (pe_cmpR op_notIn_seq (pv 6) (pv 3) (by rfl)) pa_nil)))))
      (pss_cons (ps_set (i := 8) scCtr.nd rfl (Or.inl rfl) (pe_cmpR (op_eqD hr.units) (pe_lc (own := [("k", 9)]) (g := gName 9) rfl scCtr.nd (pi_list (pv 7)) (blkOk_by (N := ["creel", "web", "here", "up", "down", "fell", "one", "more", "due", "k"]) (sc := defScope sCtr) (by decide +kernel)) (fun _ _ _ _ _ => pg_name (i := 9) scCtr.nd rfl (Or.inl rfl)) (fun _ _ _ _ _ => pts_one (pt_cmpR (inq (K := K)) (pv 9) (pv 5) (by rfl))) (fun _ _ _ _ _ => pv 9)) (pe_lst pa_nil) (nomark _)))
      (pss_cons (ps_if (PW.pt (pw_or (pt_not (pt_val (pe_call (E := E0) G__law_matched (hr.mono (by decide)) rfl g__law_matched k__law_matched b__law_matched .nil pass0 (pa_cons (pe_call (E := E0) G_fits (hr.mono (by decide)) rfl g_fits k_fits b_fits .nil pass0 (pa_cons (pv 1) (pa_cons (pv 7) (pa_cons (pv 4) pa_nil)))) (pa_cons (pv 8) pa_nil))))) (pw_or1 (pt_cmpR (op_neD hr.units) (pe_cmpR op_notN (pe_call (E := E0) G_least_run (hr.mono (by decide)) rfl g_least_run k_least_run b_least_run .nil pass0 (pa_cons (pv 1) (pa_cons (pv 7) (pa_cons (pv 4) pa_nil)))) pe_non (nomark _)) (pv 8) (nomark _))))) (pss_one (ps_ret pe_bl)) pss_nil)
      (pss_one (ps_if (PW.pt (pw_and (pt_not (pt_val (pv 8))) (pw_and1 (pt_cmpR (op_neD hr.units) (pe_lst (pa_cons (pe_call (E := E0) G__law_unfit (hr.mono (by decide)) rfl g__law_unfit k__law_unfit b__law_unfit .nil pass0 (pa_cons (pv 1) (pa_cons (pv 7) (pa_cons (pv 4) (pa_cons pe_int pa_nil))))) (pa_cons (pe_call (E := E0) G__law_unfit (hr.mono (by decide)) rfl g__law_unfit k__law_unfit b__law_unfit .nil pass0 (pa_cons (pv 1) (pa_cons (pv 7) (pa_cons (pv 4) (pa_cons pe_int pa_nil))))) pa_nil))) (pe_lst (pa_cons (pe_lst (pa_cons pe_str (pa_cons pe_int pa_nil))) (pa_cons (pe_lst (pa_cons pe_str (pa_cons pe_int pa_nil))) pa_nil))) (nomark _))))) (pss_one (ps_ret pe_bl)) pss_nil))))))
      (pss_one (ps_ret pe_bl))), ?_⟩
    have ty2 : sizeLine = 16777216 := sizeLine_eq
    have ul := oku.len
    have dln := okd.len
    have xl : xs.length = ls.length := by rw [dps_len dl, List.length_map]
    have here : ∀ {H'}, Bt c H H' → H' ha = some (.tup [.ref la, .ref fa]) ∧ H' la = some (.lst xs) ∧ DpAll K H' xs (ls.map lpD) ∧ H' fa = some (.lst (fs.map V.int)) := fun b => ⟨Tk.bt cr b _ _ (fun _ z => by cases z) hh, b _ _ la1 hl, lps_tk (Tk.bt cr b) dl, b _ _ fa1 hf⟩
    refine ⟨_, rfl, ha, _, 0, _, rfl, rfl, SqT.of hh, atI_nat (j := 0) rfl, _, rfl, ha, _, 1, _, rfl, rfl, SqT.of hh, atI_nat (j := 1) rfl, _, rfl, ?_⟩
    refine ⟨la, fa, D, xs, ls, fs, ds, rfl, SqL.of hl, dl, SqL.of hf, SqL.of hD, by omega, fun G H1 nG s1 eG => ?_⟩
    have cr1 := cr.same s1
    have gc : G ≠ c := cr_ne cr nG
    have b1 := Bt.of (c := c) s1
    obtain ⟨e1, e2, _, _⟩ := here b1
    refine ⟨_, rfl, _, rfl, ha, _, 0, _, rfl, rfl, SqT.of e1, atI_nat (j := 0) rfl, la, _, rfl, .inl (SqL.of e2), ?_⟩
    rw [xl]
    refine ⟨c, ls.length, 4, _, rfl, by omega, by omega, cr1, by omega, fun W H2 wl nW cr2 b2' eW wlen okw => ?_⟩
    have b2 := b1.trans b2'
    have eG2 := b2' _ _ gc eG
    refine ⟨W, rfl, ⟨_, SqL.of eW⟩, ?_⟩
    have eU2 := b2 _ _ U1 hU
    have eD2 := b2 _ _ D1 hD
    have ic2 := ic _ b2
    have l0 : ∀ {z}, z ∈ wl → 0 < ls.length := fun {z} hz => by have := okw.2 z hz; omega
    refine for_list (K := K) (a := W) (xs := wl.map V.int) (fun i σ Hn => ∃ o6 o7 o8 o9 : Option V, σ = [some (.ref c), some (.ref x), some (.ref ha), some (.ref U), some (.ref D), some (.ref G), o6, o7, o8, o9] ∧ Same H2 Hn)
      ⟨_, _, _, _, rfl, Same.refl H2⟩ (fun i σ Hn hi hI => by obtain ⟨_, _, _, _, _, s⟩ := hI; exact SqL.of (s _ _ eW)) (fun i y σ Hn hy hI => ?_) (fun σ Hn hI => ?_)
    · obtain ⟨o6, o7, o8, o9, rfl, s⟩ := hI
      rw [List.getElem?_map] at hy
      obtain ⟨z, hz, rfl⟩ := Option.map_eq_some_iff.mp hy
      have hzm := List.mem_of_getElem? hz
      have zr := okw.2 z hzm
      dsimp only [gName, List.set, tSeq]
      -- one more that is seen to stand
      refine ⟨_, rfl, _, rfl, by show 1 ≤ sizeLine; decide, fun q1 n1 => ?_⟩
      have u1 := same_new (o := .lst [.int z]) n1
      refine ⟨_, rfl, _, rfl, U, _, rfl, .inl (SqL.of (u1 _ _ (s _ _ eU2))), rfl, flat_ints _, ?_⟩
      refine .inr ⟨!decide (z ∈ us), by rw [inV_int]; rfl, ?_⟩
      have mE : (List.replicate (if (!decide (z ∈ us)) = true then (1 : Int) else 0).toNat [V.int z]).flatten = (if z ∈ us then [] else [z]).map V.int := by by_cases c : z ∈ us <;> simp [c]
      have nE : (if (!decide (z ∈ us)) = true then (1 : Int) else 0) = 0 ∨ (if (!decide (z ∈ us)) = true then (1 : Int) else 0) = 1 := by by_cases c : z ∈ us <;> simp [c]
      refine ⟨q1, _, _, rfl, rfl, upd_same, by omega, by omega, by rcases nE with h | h <;> rw [h] <;> simp <;> omega, ?_⟩
      rw [mE]
      intro q2 n2
      have okm : OkFs ls.length (us ++ if z ∈ us then [] else [z]) := by
        by_cases c : z ∈ us
        · rw [if_pos c, List.append_nil]
          exact oku
        · rw [if_neg c]
          exact ok_more oku c zr
      have u2' := same_new (o := .lst ((if z ∈ us then [] else [z]).map V.int)) n2
      have u2 := u1.trans u2'
      have lm' := okm.len
      refine ⟨U, q2, _, _, rfl, rfl, u2 _ _ (s _ _ eU2), upd_same, by rw [List.length_map, List.length_map]; rw [List.length_append] at lm'; omega, fun M nM => ?_⟩
      have u3' := same_new (o := .lst (us.map V.int ++ (if z ∈ us then [] else [z]).map V.int)) nM
      have eM : upd (upd (upd Hn q1 (.lst [.int z])) q2 (.lst ((if z ∈ us then [] else [z]).map V.int))) M (.lst (us.map V.int ++ (if z ∈ us then [] else [z]).map V.int)) M = some (.lst ((us ++ if z ∈ us then [] else [z]).map V.int)) := by rw [upd_same, List.map_append]
      have s3 := s.trans (u2.trans u3')
      generalize upd (upd (upd Hn q1 (.lst [.int z])) q2 (.lst ((if z ∈ us then [] else [z]).map V.int))) M (.lst (us.map V.int ++ (if z ∈ us then [] else [z]).map V.int)) = H3 at s3 eM
      generalize (us ++ if z ∈ us then [] else [z]) = mo at eM okm lm'
      clear u3' u2 u2' u1 n1 n2 nM mE nE
      dsimp only [gName, List.set]
      -- whether it fits
      refine ⟨_, rfl, M, rfl, ⟨_, SqL.of eM⟩, fun J nJ => ?_⟩
      refine lc_list (K := K) (a := M) (xs := mo.map V.int) (fun j H' => Same H3 H' ∧ H' J = some (.lst (((mo.take j).filter fun z => decide (z ∈ cI (fallD ls fs ds))).map V.int)))
        ⟨same_new nJ, upd_same⟩ (fun j H' hj hg => SqL.of (hg.1 _ _ eM)) (fun j y H' hy hg => ⟨rfl, ?_⟩) (fun H4 hg => ?_)
      · obtain ⟨sB, eJ⟩ := hg
        rw [List.getElem?_map] at hy
        obtain ⟨z, hz, rfl⟩ := Option.map_eq_some_iff.mp hy
        refine ⟨_, rfl, _, rfl, G, _, rfl, .inl (SqL.of (sB _ _ (s3 _ _ eG2))), rfl, flat_nI _, _, rfl, ?_⟩
        show if (inV (.int z) (nI (fallD ls fs ds))) = true then _ else _
        rw [nI_cI, inV_int, List.take_add_one, hz, Option.toList_some, List.filter_append]
        have lz := List.length_filter_le (fun z => decide (z ∈ cI (fallD ls fs ds))) (mo.take j)
        rw [List.length_take] at lz
        by_cases c : z ∈ cI (fallD ls fs ds)
        · refine LK.ifT (decide_eq_true c) ⟨_, rfl, _, eJ, by rw [List.length_map]; omega, fun b o e => ?_, ?_⟩
          · rw [upd_ne (ne_of_none e nJ)]
            exact sB _ _ e
          · rw [upd_same, List.map_append, List.filter_cons, if_pos (decide_eq_true c)]
            rfl
        · exact LK.ifF (decide_eq_false c) ⟨sB, by rw [eJ, List.filter_cons, if_neg (by rw [decide_eq_true_eq]; exact c), List.filter_nil, List.append_nil]⟩
      obtain ⟨s4', eJ⟩ := hg
      rw [List.length_map, List.take_length] at eJ
      refine ⟨by show 0 ≤ sizeLine; decide, fun e ne => ?_⟩
      have u := same_new (o := .lst []) ne
      refine ⟨.list (_ : List PyData), .list [], .lst (SqL.of (u _ _ eJ)) (dp_ints_of _), .lst (SqL.of upd_same) .nil, sh_ints _, sh_ints [], ?_⟩
      rw [eqv_nili, ← fit_fell hms okm]
      have s4 := (s3.trans s4').trans u
      have eM4 := u _ _ (s4' _ _ eM)
      generalize upd H4 e (.lst []) = H4 at s4 eM4
      have eD4 := s4 _ _ eD2
      dsimp only [gName, List.set]
      have icn := ic _ (b2.trans (Bt.of s4))
      have fitc : ∀ (Hn : Hp) (Q' : VK) (E' : XK), Same H4 Hn → (∀ H', Same Hn H' → Q' (.bl (fitsD ls ms mo ds)) H') → spFits K CC [.ref x, .ref M, .ref D] Hn Q' E' := fun Hn Q' E' s q => ⟨x, M, D, ls, ms, mo, ds, rfl, icn.same s, thin, lm, SqL.of (s _ _ eM4), SqL.of (s _ _ eD4), okm, okd, q⟩
      refine ⟨_, rfl, _, rfl, _, rfl, ?_⟩
      dsimp only [tNil, List.cons_append, List.nil_append]
      refine fitc _ _ _ (Same.refl H4) fun H5 s5 => ?_
      refine ⟨_, rfl, .bl _, .bl _, .bool (fitsD ls ms mo ds), rfl, .bl _, .bl _, rfl, Nat.zero_lt_succ _, Nat.zero_le _, rfl, fun H6 s6' => ⟨_, rfl, LK.ifF rfl ?_⟩⟩
      have s6 := s5.trans s6'
      cases hF : fitsD ls ms mo ds with
      | true =>
        refine ⟨_, rfl, _, rfl, _, rfl, x, M, D, ls, ms, mo, ds, rfl, icn.same s6, thin, lm, SqL.of (s6 _ _ eM4), SqL.of (s6 _ _ eD4), okm, okd, fun f p H7 np s7 ep => ?_, fun f => ?_⟩
        · refine ⟨rfl, _, rfl, .bool _, .bool _, .bl _, .bl _, rfl, rfl, _, rfl, LK.ifF ?_ ?_⟩
          · rw [show (!decide (V.ref p = V.non)) = true by simp]
            rfl
          · exact ⟨_, rfl, _, rfl, LK.ifF rfl (LK.ifF rfl ⟨_, _, _, _, rfl, s4.trans (s6.trans s7)⟩)⟩
        · rw [hF] at f
          cases f
      | false =>
        refine ⟨_, rfl, _, rfl, _, rfl, x, M, D, ls, ms, mo, ds, rfl, icn.same s6, thin, lm, SqL.of (s6 _ _ eM4), SqL.of (s6 _ _ eD4), okm, okd, fun f => ?_, fun f H7 s7' => ?_⟩
        · rw [hF] at f
          cases f
        · have s7 := s6.trans s7'
          refine ⟨rfl, _, rfl, .bool _, .bool _, .bl _, .bl _, rfl, rfl, _, rfl, LK.ifF rfl ?_⟩
          have unf : ∀ (way : Int) (Hn : Hp) (Q' : VK) (E' : XK), Same H4 Hn → (∀ p H', Hn p = none → Same Hn H' → H' p = some (.lst [.str "unfit", .int 0]) → Q' (.ref p) H') → spUnf K CC [.ref x, .ref M, .ref D, .int way] Hn Q' E' := fun way Hn Q' E' s q => ⟨x, M, D, ls, ms, mo, ds, way, rfl, icn.same s, thin, lm, SqL.of (s _ _ eM4), SqL.of (s _ _ eD4), okm, okd, l0 hzm, hF, q⟩
          refine ⟨_, rfl, _, rfl, LK.ifT rfl ?_⟩
          refine ⟨_, rfl, _, rfl, _, rfl, ?_⟩
          dsimp only [tCons, tC, tNil, List.cons_append, List.nil_append]
          refine unf 0 _ _ _ s7 fun p1 H8 np1 s8' ep1 => ?_
          have s8 := s7.trans s8'
          refine ⟨_, rfl, _, rfl, _, rfl, ?_⟩
          dsimp only [tCons, tC, tNil, List.cons_append, List.nil_append]
          refine unf 1 _ _ _ s8 fun p2 H9 np2 s9' ep2 => ?_
          refine ⟨by show 2 ≤ sizeLine; decide, fun p3 np3 => ?_⟩
          have v3 := same_new (o := .lst [.ref p1, .ref p2]) np3
          refine ⟨by show 2 ≤ sizeLine; decide, fun p4 np4 => ⟨by show 2 ≤ sizeLine; decide, fun p5 np5 => ⟨by show 2 ≤ sizeLine; decide, fun p6 np6 => ?_⟩⟩⟩
          have v4 := same_new (o := .lst [.str "unfit", .int 0]) np4
          have v5 := same_new (o := .lst [.str "unfit", .int 0]) np5
          have v6 := same_new (o := .lst [.ref p4, .ref p5]) np6
          have d1 : ∀ {H' : Hp} {p : Addr}, H' p = some (.lst [.str "unfit", .int 0]) → Dp K H' (.ref p) (.list [.str "unfit", .int 0]) := fun e => .lst (SqL.of e) (.cons (.str _) (.cons (.int _) .nil))
          refine ⟨.list [.list [.str "unfit", .int 0], .list [.str "unfit", .int 0]], .list [.list [.str "unfit", .int 0], .list [.str "unfit", .int 0]], ?_, ?_, ?_, ?_, _, rfl, LK.ifF ?_ ?_⟩
          · exact .lst (SqL.of (v6 _ _ (v5 _ _ (v4 _ _ upd_same)))) (.cons (d1 (v6 _ _ (v5 _ _ (v4 _ _ (v3 _ _ (s9' _ _ ep1)))))) (.cons (d1 (v6 _ _ (v5 _ _ (v4 _ _ (v3 _ _ ep2))))) .nil))
          · exact .lst (SqL.of upd_same) (.cons (d1 (v6 _ _ (v5 _ _ upd_same))) (.cons (d1 (v6 _ _ upd_same)) .nil))
          · decide +kernel
          · decide +kernel
          · decide
          · exact ⟨_, _, _, _, rfl, s4.trans (s8.trans (s9'.trans (v3.trans (v4.trans (v5.trans v6)))))⟩
    · obtain ⟨o6, o7, o8, o9, rfl, s⟩ := hI
      exact k _ ((cr2.same s).mono (by omega)) (b2.trans (Bt.of s))
end
end B7
/-! The mathematics of a story. -/
namespace B7
open PySem PySem.Spec PyProof.Rows L2 LK MXo MXi MXp MXr
theorem gone_sub {ls : List Lp} {fs n0 ds : List Int} (hd : ∀ z ∈ ds, z ∈ cI (fallD ls fs n0)) : ∀ k ∈ fallD ls fs ds, k ∈ fallD ls fs n0 := fall_least fun j hj hc => memI.mp (hd _ hc)
theorem story_fit {ls : List Lp} {fs ms n0 us ds : List Int} (h : ∀ y, y ∈ ms ↔ y ∈ fs) (oku : OkFs ls.length us) (hu : ∀ z ∈ us, z ∉ cI (fallD ls fs n0)) (hd : ∀ z ∈ ds, z ∈ cI (fallD ls fs n0)) : fitsD ls ms us ds = true := by
  rw [fit_fell h oku, List.isEmpty_iff, List.filter_eq_nil_iff]
  intro z hz m
  obtain ⟨k, hk, rfl⟩ := List.mem_map.mp (of_decide_eq_true m)
  exact hu _ hz (memI.mpr (gone_sub hd k hk))
theorem sure_stands {ls : List Lp} {fs ms n0 us ds : List Int} (h : ∀ y, y ∈ ms ↔ y ∈ fs) (par : Par ls) (oku : OkFs ls.length us) (hu : ∀ z ∈ us, z ∉ cI (fallD ls fs n0)) (hd : ∀ z ∈ ds, z ∈ cI (fallD ls fs n0)) {k : Nat} (s : SureP (nearD ls ms ds) us k) : k ∉ fallD ls fs n0 := by
  intro kf
  obtain ⟨j, hj, nj⟩ := (sure_cut par (story_fit h oku hu hd)).mp s
  have jl : j < ls.length := by
    have := oku.2 _ hj
    omega
  refine hu _ hj (memI.mpr (fall_least (c2 := ds ++ [(k : Int)]) (fun q hq hc => ?_) j (fall_mem.mpr ⟨jl, by rw [← upL_ms h]; exact nj⟩)))
  rcases List.mem_append.mp hc with hc | hc
  · exact memI.mp (hd _ hc)
  · have := List.mem_singleton.mp hc
    rw [show q = k by omega]
    exact kf
theorem sure_grow {ls : List Lp} {ms us ds us2 ds2 : List Int} (par : Par ls) (f1 : fitsD ls ms us ds = true) (f2 : fitsD ls ms us2 ds2 = true) (hu : ∀ z ∈ us, z ∈ us2) (hd : ∀ z ∈ ds, z ∈ ds2) {k : Nat} (s : SureP (nearD ls ms ds) us k) : SureP (nearD ls ms ds2) us2 k := by
  obtain ⟨j, hj, nj⟩ := (sure_cut par f1).mp s
  refine (sure_cut par f2).mpr ⟨j, hu _ hj, fun u => nj (upL_mono (n := ls.length) (fun z hz m => upL_cut hz ?_) (Nat.le_refl _) u)⟩
  rcases List.mem_append.mp m with m | m
  · exact List.mem_append_left _ (hd _ m)
  · exact List.mem_append_right _ m
theorem fall_grow {ls : List Lp} {fs ds ds2 : List Int} (hd : ∀ z ∈ ds, z ∈ ds2) : ∀ k ∈ fallD ls fs ds, k ∈ fallD ls fs ds2 := fall_least fun j hj hc => fall_cut hj (hd _ hc)
theorem can_mem {ls : List Lp} {fs ds : List Int} {k : Nat} : k ∈ canL ls fs ds ↔ k < ls.length ∧ k ∉ fallD ls fs ds := by
  unfold canL
  rw [List.mem_filter, List.mem_range, decide_eq_true_eq]
theorem lost_iff {ls : List Lp} {fs ms us ds : List Int} (h : ∀ y, y ∈ ms ↔ y ∈ fs) (par : Par ls) (f : fitsD ls ms us ds = true) {k : Nat} : lostB ls fs us ds k = true ↔ SureP (nearD ls ms ds) us k := by
  rw [sure_cut par f]
  unfold lostB
  rw [Bool.not_eq_true', List.isEmpty_eq_false_iff]
  constructor
  · intro n
    obtain ⟨z, hz⟩ := List.exists_mem_of_ne_nil _ n
    obtain ⟨h1, h2⟩ := List.mem_filter.mp hz
    obtain ⟨j, rfl, _⟩ := fits_up f h1
    exact ⟨j, h1, fun u => of_decide_eq_true h2 (memI.mpr (List.mem_reverse.mpr (by rw [← upL_ms h]; exact u)))⟩
  · rintro ⟨j, hj, nj⟩ e
    have : (j : Int) ∈ us.filter fun z => decide (z ∉ cI (upL ls fs (ds ++ [(k : Int)]) ls.length).reverse) := List.mem_filter.mpr ⟨hj, decide_eq_true fun m => nj (by rw [upL_ms h]; exact List.mem_reverse.mp (memI.mp m))⟩
    rw [e] at this
    cases this
theorem sureD_mem {ls : List Lp} {fs ms us ds : List Int} (h : ∀ y, y ∈ ms ↔ y ∈ fs) (par : Par ls) (f : fitsD ls ms us ds = true) {k : Nat} : k ∈ sureD ls fs us ds ↔ SureP (nearD ls ms ds) us k := by
  unfold sureD
  rw [List.mem_filter, lost_iff h par f, can_mem]
  refine ⟨fun q => q.2, fun q => ⟨?_, q⟩⟩
  have u := sure_up par f q
  refine ⟨upL_lt (Nat.le_refl _) u, fun n => ?_⟩
  rw [← fall_ms h] at n
  exact (fall_mem.mp n).2 u
theorem openD_mem {ls : List Lp} {fs ms us ds : List Int} (h : ∀ y, y ∈ ms ↔ y ∈ fs) (par : Par ls) (f : fitsD ls ms us ds = true) {k : Nat} : k ∈ openD ls fs us ds ↔ k < ls.length ∧ Open ls ms us ds k := by
  unfold openD
  rw [List.mem_filter, can_mem, Bool.not_eq_true', ← Bool.not_eq_true, lost_iff h par f, Open, fall_ms h, and_assoc]
theorem sureD_asc (ls : List Lp) (fs us ds : List Int) : (sureD ls fs us ds).Pairwise (· < ·) := (List.pairwise_lt_range.filter _).filter _
theorem openD_asc (ls : List Lp) (fs us ds : List Int) : (openD ls fs us ds).Pairwise (· < ·) := (List.pairwise_lt_range.filter _).filter _
theorem can_len (ls : List Lp) (fs ds : List Int) : (canL ls fs ds).length ≤ ls.length := by
  have := List.length_filter_le (fun k => decide (k ∉ fallD ls fs ds)) (List.range ls.length)
  rwa [List.length_range] at this
theorem cut_ints (xs : List Int) (lo hi : Option Int) : ∃ ys : List Int, cutV (xs.map V.int) lo hi = ys.map V.int ∧ List.Sublist ys xs := by
  unfold cutV
  refine ⟨_, by rw [← List.map_drop, ← List.map_take], (List.take_sublist _ _).trans (List.drop_sublist _ _)⟩
/-- what the program tells is what the law looks for -/
theorem rest_is {ls : List Lp} {fs ms us ds : List Int} (h : ∀ y, y ∈ ms ↔ y ∈ fs) (par : Par ls) (f : fitsD ls ms us ds = true) : ((List.range ls.length).filter fun k => decide (k ∉ sureD ls fs us ds ∧ k ∉ fallD ls ms ds)) = openD ls fs us ds := asc_eq (List.pairwise_lt_range.filter _) (openD_asc _ _ _ _) fun k => by
  rw [List.mem_filter, List.mem_range, decide_eq_true_eq, openD_mem h par f, sureD_mem h par f, Open]
  exact ⟨fun q => ⟨q.1, q.2.2, q.2.1⟩, fun q => ⟨q.1, q.2.2, q.2.1⟩⟩
end B7
/-! _law_story_right. -/
namespace B7
open PySem PySem.Spec PyProof.Rows L2 LK MXo MXi MXp MXr MXg MXt MXu
abbrev sStr : Stmt := top 54
theorem scStr : FnScope ["creel", "web", "here", "fell", "up", "down", "before", "turn", "due", "told", "lost", "spot", "pair", "fresh", "one", "k"] ["creel", "web", "here"] (defScope sStr) := ⟨rfl, rfl, rfl, by decide +kernel, rfl, by decide +kernel, by decide +kernel⟩
theorem three3 (a b c : List Int) (h1 : a.length ≤ 1000) (h2 : b.length ≤ 1000) (h3 : c.length ≤ 1000) : (PyData.tuple [.list (a.map PyData.int), .list (b.map PyData.int), .list (c.map PyData.int)]).canLay0 = true ∧ (PyData.tuple [.list (a.map PyData.int), .list (b.map PyData.int), .list (c.map PyData.int)]).depth ≤ 3 ∧ few (.tuple [.list (a.map PyData.int), .list (b.map PyData.int), .list (c.map PyData.int)]) = true := by
  obtain ⟨a1, a2⟩ := lay_ints a
  obtain ⟨b1, b2⟩ := lay_ints b
  obtain ⟨c1, c2⟩ := lay_ints c
  refine ⟨?_, ?_, ?_⟩
  · simp [PyData.canLay0, PyData.canLayAll0, a1, b1, c1]
  · simp [PyData.depth, PyData.depthAll, a2, b2, c2]
  · have f1 := few_ints a
    have f2 := few_ints b
    have f3 := few_ints c
    simp [few, fewAll, f1, f2, f3]
    omega
/-- what was told the turn before -/
def Bef (c : Addr) (ls : List Lp) (fs ms us ds : List Int) (H : Hp) (bv : V) : Prop := bv = .non ∨ ∃ (p a b d : Addr) (SB GB : List Nat), bv = .ref p ∧ a ≠ c ∧ b ≠ c ∧ H p = some (.tup [.ref a, .ref b, .ref d]) ∧ H a = some (.lst ((cI SB).map V.int)) ∧ H b = some (.lst ((cI GB).map V.int)) ∧ (∀ k ∈ SB, SureP (nearD ls ms ds) us k) ∧ (∀ k ∈ GB, k ∈ fallD ls fs ds) ∧ SB.length ≤ 60 ∧ GB.length ≤ 60
def spStr (K : PySem.W.Frag) (CC : Addr) : Sp := fun vs H Q _ => ∃ (c x ha la fa : Addr) (xs : List V) (ls : List Lp) (fs ms : List Int) (N : Nat), vs = [.ref c, .ref x, .ref ha] ∧ CR H c N ∧ N + 100000 < 10 ^ 12 ∧ (∀ H', Bt c H H' → IsC K CC H' x ls ms) ∧ (∀ y, y ∈ ms ↔ y ∈ fs) ∧ Par ls ∧ ls.length ≤ 60 ∧ Thin ls ∧ ms.length ≤ 100 ∧ H ha = some (.tup [.ref la, .ref fa]) ∧ H la = some (.lst xs) ∧ DpAll K H xs (ls.map lpD) ∧ H fa = some (.lst (fs.map V.int)) ∧ la ≠ c ∧ fa ≠ c ∧
  ∀ H', Bt c H H' → Q (.bl true) H'
section
variable {P : Program} {w : World} {K : PySem.W.Frag} {mg : Str → Option Value} {base : Heap} {CC : Addr}
theorem ok_Str {f : Addr} {fd : FuncData} (F : Fun K "_law_story_right" "_law_story_right" sStr f fd) (B : Bl mg)
    {f_fits : Addr} {d_fits : FuncData} (G_fits : FnOk P w K mg base CX0 6 f_fits d_fits ["cloth", "stood", "ran"] (spFits K CC)) (g_fits : mg "fits" = some (.ref f_fits)) (k_fits : PySem.W.keepIn K (.ref f_fits) = true) (b_fits : Binds K d_fits ["cloth", "stood", "ran"] [])
    {f_least_run : Addr} {d_least_run : FuncData} (G_least_run : FnOk P w K mg base CX0 7 f_least_run d_least_run ["cloth", "stood", "ran"] (spLst K CC)) (g_least_run : mg "least_run" = some (.ref f_least_run)) (k_least_run : PySem.W.keepIn K (.ref f_least_run) = true) (b_least_run : Binds K d_least_run ["cloth", "stood", "ran"] [])
    {f_surely : Addr} {d_surely : FuncData} (G_surely : FnOk P w K mg base CX0 7 f_surely d_surely ["cloth", "stood", "ran"] (spSur K CC)) (g_surely : mg "surely" = some (.ref f_surely)) (k_surely : PySem.W.keepIn K (.ref f_surely) = true) (b_surely : Binds K d_surely ["cloth", "stood", "ran"] [])
    {f_shown : Addr} {d_shown : FuncData} (G_shown : FnOk P w K mg base CX0 8 f_shown d_shown ["cloth", "stood", "ran", "loop"] (spShw K CC)) (g_shown : mg "shown" = some (.ref f_shown)) (k_shown : PySem.W.keepIn K (.ref f_shown) = true) (b_shown : Binds K d_shown ["cloth", "stood", "ran", "loop"] [])
    {f__law_fallen : Addr} {d__law_fallen : FuncData} (G__law_fallen : FnOk P w K mg base CX0 2 f__law_fallen d__law_fallen ["loops_here", "fast_here", "cuts_here"] (spFal K)) (g__law_fallen : mg "_law_fallen" = some (.ref f__law_fallen)) (k__law_fallen : PySem.W.keepIn K (.ref f__law_fallen) = true) (b__law_fallen : Binds K d__law_fallen ["loops_here", "fast_here", "cuts_here"] [])
    {f__law_some_of : Addr} {d__law_some_of : FuncData} (G__law_some_of : FnOk P w K mg base CX0 2 f__law_some_of d__law_some_of ["creel", "count", "most"] (spSome K)) (g__law_some_of : mg "_law_some_of" = some (.ref f__law_some_of)) (k__law_some_of : PySem.W.keepIn K (.ref f__law_some_of) = true) (b__law_some_of : Binds K d__law_some_of ["creel", "count", "most"] [])
    {f__law_sure_due : Addr} {d__law_sure_due : FuncData} (G__law_sure_due : FnOk P w K mg base CX0 3 f__law_sure_due d__law_sure_due ["here", "seen"] (spDus K)) (g__law_sure_due : mg "_law_sure_due" = some (.ref f__law_sure_due)) (k__law_sure_due : PySem.W.keepIn K (.ref f__law_sure_due) = true) (b__law_sure_due : Binds K d__law_sure_due ["here", "seen"] [])
    {f__law_behind : Addr} {d__law_behind : FuncData} (G__law_behind : FnOk P w K mg base CX0 7 f__law_behind d__law_behind ["here", "told", "spot", "stands", "seen"] (spBeh K)) (g__law_behind : mg "_law_behind" = some (.ref f__law_behind)) (k__law_behind : PySem.W.keepIn K (.ref f__law_behind) = true) (b__law_behind : Binds K d__law_behind ["here", "told", "spot", "stands", "seen"] [])
    {f__law_contrary_right : Addr} {d__law_contrary_right : FuncData} (G__law_contrary_right : FnOk P w K mg base CX0 10 f__law_contrary_right d__law_contrary_right ["creel", "web", "here", "up", "down"] (spCtr K CC)) (g__law_contrary_right : mg "_law_contrary_right" = some (.ref f__law_contrary_right)) (k__law_contrary_right : PySem.W.keepIn K (.ref f__law_contrary_right) = true) (b__law_contrary_right : Binds K d__law_contrary_right ["creel", "web", "here", "up", "down"] [])
    {f__law_matched : Addr} {d__law_matched : FuncData} (G__law_matched : FnOk P w K mg base CX0 6 f__law_matched d__law_matched ["found", "due"] (spM K 6)) (g__law_matched : mg "_law_matched" = some (.ref f__law_matched)) (k__law_matched : PySem.W.keepIn K (.ref f__law_matched) = true) (b__law_matched : Binds K d__law_matched ["found", "due"] []) : FnOk P w K mg base CX0 11 f fd ["creel", "web", "here"] (spStr K CC) := by
  refine F.ok scStr (fun vs H Q E h => ?_) (fun cdv A outer s H vs Q E hr h => ?_)
  · obtain ⟨c, x, ha, _, _, _, _, _, _, _, rfl, _⟩ := h
    rfl
  · obtain ⟨c, x, ha, la, fa, xs, ls, fs, ms, N, rfl, cr, room, ic, hms, par, l60, thin, lm, hh, hl, dl, hf, la1, fa1, k⟩ := h
    refine ⟨_, pss_cons (ps_set (i := 3) scStr.nd rfl (Or.inr rfl) (pe_call (E := E0) G__law_fallen (hr.mono (by decide)) rfl g__law_fallen k__law_fallen b__law_fallen .nil pass0 (pa_cons (pe_ix (ixt (K := K)) (pv 2) pe_int (fun _ _ => rfl)) (pa_cons (pe_ix (ixt (K := K)) (pv 2) pe_int (fun _ _ => rfl)) (pa_cons (pe_call (E := E0) G__law_some_of (hr.mono (by decide)) rfl g__law_some_of k__law_some_of b__law_some_of .nil pass0 (pa_cons (pv 0) (pa_cons (pe_callB call_len_seq (by rfl) (B "len" (by decide)) (by decide +kernel) (pa_cons (pe_ix (ixt (K := K)) (pv 2) pe_int (fun _ _ => rfl)) pa_nil)) (pa_cons pe_int pa_nil)))) pa_nil)))))
      (pss_cons (ps_set (i := 4) scStr.nd rfl (Or.inr rfl) (pe_lc (own := [("one", 14)]) (g := gName 14) rfl scStr.nd (pi_list (pe_call (E := E0) G__law_some_of (hr.mono (by decide)) rfl g__law_some_of k__law_some_of b__law_some_of .nil pass0 (pa_cons (pv 0) (pa_cons (pe_callB call_len_seq (by rfl) (B "len" (by decide)) (by decide +kernel) (pa_cons (pe_ix (ixt (K := K)) (pv 2) pe_int (fun _ _ => rfl)) pa_nil)) (pa_cons pe_int pa_nil))))) (blkOk_by (N := ["creel", "web", "here", "fell", "up", "down", "before", "turn", "due", "told", "lost", "spot", "pair", "fresh", "one", "k"]) (sc := defScope sStr) (by decide +kernel)) (fun _ _ _ _ _ => pg_name (i := 14) scStr.nd rfl (Or.inl rfl)) (fun _ _ _ _ _ => pts_one (pt_cmpR (ninq (K := K)) (pv 14) (pv 3) (by rfl))) (fun _ _ _ _ _ => pv 14)))
      (pss_cons (ps_set (i := 5) scStr.nd rfl (Or.inr rfl) (pe_slice sl_list (pe_lc (own := [("one", 14)]) (g := gName 14) rfl scStr.nd (pi_list (pe_call (E := E0) G__law_some_of (hr.mono (by decide)) rfl g__law_some_of k__law_some_of b__law_some_of .nil pass0 (pa_cons (pv 0) (pa_cons (pe_callB call_len_seq (by rfl) (B "len" (by decide)) (by decide +kernel) (pa_cons (pe_ix (ixt (K := K)) (pv 2) pe_int (fun _ _ => rfl)) pa_nil)) (pa_cons pe_int pa_nil))))) (blkOk_by (N := ["creel", "web", "here", "fell", "up", "down", "before", "turn", "due", "told", "lost", "spot", "pair", "fresh", "one", "k"]) (sc := defScope sStr) (by decide +kernel)) (fun _ _ _ _ _ => pg_name (i := 14) scStr.nd rfl (Or.inl rfl)) (fun _ _ _ _ _ => pts_one (pt_cmpR (inq (K := K)) (pv 14) (pv 3) (by rfl))) (fun _ _ _ _ _ => pv 14)) po_none (po_some pe_int)))
      (pss_cons (ps_set (i := 6) scStr.nd rfl (Or.inl rfl) pe_non)
      (pss_cons (ps_for PassesOwn.never rfl (pi_range1 (by rfl) (B "range" (by decide)) (pa_cons pe_int pa_nil)) (pg_name (i := 7) scStr.nd rfl (Or.inl rfl)) (pss_cons (ps_set (i := 8) scStr.nd rfl (Or.inl rfl) (pe_call (E := E0) G__law_sure_due (hr.mono (by decide)) rfl g__law_sure_due k__law_sure_due b__law_sure_due .nil pass0 (pa_cons (pv 2) (pa_cons (pe_tup (pa_cons (pv 4) (pa_cons (pv 5) pa_nil))) pa_nil))))
      (pss_cons (ps_set (i := 9) scStr.nd rfl (Or.inr rfl) (pe_call (E := E0) G_surely (hr.mono (by decide)) rfl g_surely k_surely b_surely .nil pass0 (pa_cons (pv 1) (pa_cons (pv 4) (pa_cons (pv 5) pa_nil)))))
      (pss_cons (ps_if (PW.pt (pw_or (pt_cmpR op_notBl (pe_call (E := E0) G_fits (hr.mono (by decide)) rfl g_fits k_fits b_fits .nil pass0 (pa_cons (pv 1) (pa_cons (pv 4) (pa_cons (pv 5) pa_nil)))) pe_bl (nomark _)) (pw_or1 (pt_not (pt_val (pe_call (E := E0) G__law_matched (hr.mono (by decide)) rfl g__law_matched k__law_matched b__law_matched .nil pass0 (pa_cons (pv 9) (pa_cons (pv 8) pa_nil)))))))) (pss_one (ps_ret pe_bl)) pss_nil)
      (pss_cons (ps_if (PW.pt (pw_or (pt_not (pt_val (pe_call (E := E0) G__law_matched (hr.mono (by decide)) rfl g__law_matched k__law_matched b__law_matched .nil pass0 (pa_cons (pe_call (E := E0) G_least_run (hr.mono (by decide)) rfl g_least_run k_least_run b_least_run .nil pass0 (pa_cons (pv 1) (pa_cons (pv 4) (pa_cons (pv 5) pa_nil)))) (pa_cons (pe_ix (ixt (K := K)) (pv 8) pe_int (fun _ _ => rfl)) pa_nil))))) (pw_or1 (pt_cmpR (op_neD hr.units) (pe_lc (own := [("k", 15)]) (g := gName 15) rfl scStr.nd (pi_list (pe_ix (ixt (K := K)) (pv 8) pe_int (fun _ _ => rfl))) (blkOk_by (N := ["creel", "web", "here", "fell", "up", "down", "before", "turn", "due", "told", "lost", "spot", "pair", "fresh", "one", "k"]) (sc := defScope sStr) (by decide +kernel)) (fun _ _ _ _ _ => pg_name (i := 15) scStr.nd rfl (Or.inl rfl)) (fun _ _ _ _ _ => pts_one (pt_cmpR (ninq (K := K)) (pv 15) (pv 3) (by rfl))) (fun _ _ _ _ _ => pv 15)) (pe_lst pa_nil) (nomark _))))) (pss_one (ps_ret pe_bl)) pss_nil)
      (pss_cons (ps_if (pt_cmpR (op_neD hr.units) (pe_lc (own := [("k", 15)]) (g := gName 15) rfl scStr.nd (pi_list (pe_ix (ixt (K := K)) (pv 9) pe_int (fun _ _ => rfl))) (blkOk_by (N := ["creel", "web", "here", "fell", "up", "down", "before", "turn", "due", "told", "lost", "spot", "pair", "fresh", "one", "k"]) (sc := defScope sStr) (by decide +kernel)) (fun _ _ _ _ _ => pg_name (i := 15) scStr.nd rfl (Or.inl rfl)) (fun _ _ _ _ _ => pts_one (pt_cmpR (inq (K := K)) (pv 15) (pv 3) (by rfl))) (fun _ _ _ _ _ => pv 15)) (pe_lst pa_nil) (nomark _)) (pss_one (ps_ret pe_bl)) pss_nil)
      (pss_cons (ps_if (pt_cmpR op_notN (pv 6) pe_non (nomark _)) (pss_cons (ps_set (i := 10) scStr.nd rfl (Or.inl rfl) (pe_op op_cat (pe_lc (own := [("k", 15)]) (g := gName 15) rfl scStr.nd (pi_list (pe_ix (ixt (K := K)) (pv 6) pe_int (fun _ _ => rfl))) (blkOk_by (N := ["creel", "web", "here", "fell", "up", "down", "before", "turn", "due", "told", "lost", "spot", "pair", "fresh", "one", "k"]) (sc := defScope sStr) (by decide +kernel)) (fun _ _ _ _ _ => pg_name (i := 15) scStr.nd rfl (Or.inl rfl)) (fun _ _ _ _ _ => pts_one (pt_cmpR (ninq (K := K)) (pv 15) (pe_ix (ixt (K := K)) (pv 9) pe_int (fun _ _ => rfl)) (by rfl))) (fun _ _ _ _ _ => pv 15)) (pe_lc (own := [("k", 15)]) (g := gName 15) rfl scStr.nd (pi_list (pe_ix (ixt (K := K)) (pv 6) pe_int (fun _ _ => rfl))) (blkOk_by (N := ["creel", "web", "here", "fell", "up", "down", "before", "turn", "due", "told", "lost", "spot", "pair", "fresh", "one", "k"]) (sc := defScope sStr) (by decide +kernel)) (fun _ _ _ _ _ => pg_name (i := 15) scStr.nd rfl (Or.inl rfl)) (fun _ _ _ _ _ => pts_one (pt_cmpR (ninq (K := K)) (pv 15) (pe_ix (ixt (K := K)) (pv 9) pe_int (fun _ _ => rfl)) (by rfl))) (fun _ _ _ _ _ => pv 15))))
      (pss_one (ps_if (pt_cmpR (op_neD hr.units) (pv 10) (pe_lst pa_nil) (nomark _)) (pss_one (ps_ret pe_bl)) pss_nil))) pss_nil)
      (pss_cons (ps_if (pt_cmpR (op_neD hr.units) (pe_lc (own := [("k", 15)]) (g := gName 15) rfl scStr.nd (pi_list (pe_op op_cat (pe_slice sl_list (pe_ix (ixt (K := K)) (pv 8) pe_int (fun _ _ => rfl)) po_none (po_some pe_int)) (pe_slice sl_list (pe_ix (ixt (K := K)) (pv 8) pe_int (fun _ _ => rfl)) po_none (po_some pe_int)))) (blkOk_by (N := ["creel", "web", "here", "fell", "up", "down", "before", "turn", "due", "told", "lost", "spot", "pair", "fresh", "one", "k"]) (sc := defScope sStr) (by decide +kernel)) (fun _ _ _ _ _ => pg_name (i := 15) scStr.nd rfl (Or.inl rfl)) (fun _ _ _ _ _ => pts_one (pt_cmpR op_notN (pe_call (E := E0) G_shown (hr.mono (by decide)) rfl g_shown k_shown b_shown .nil pass0 (pa_cons (pv 1) (pa_cons (pv 4) (pa_cons (pv 5) (pa_cons (pv 15) pa_nil))))) pe_non (nomark _))) (fun _ _ _ _ _ => pv 15)) (pe_lst pa_nil) (nomark _)) (pss_one (ps_ret pe_bl)) pss_nil)
      (pss_cons (ps_for PassesOwn.never rfl (pi_list (pe_op op_cat (pe_slice sl_list (pe_ix (ixt (K := K)) (pv 8) pe_int (fun _ _ => rfl)) po_none (po_some pe_int)) (pe_slice sl_list (pe_ix (ixt (K := K)) (pv 8) pe_int (fun _ _ => rfl)) (po_some (pe_un un_neg pe_int)) po_none))) (pg_name (i := 11) scStr.nd rfl (Or.inl rfl)) (pss_cons (ps_set (i := 12) scStr.nd rfl (Or.inl rfl) (pe_call (E := E0) G_shown (hr.mono (by decide)) rfl g_shown k_shown b_shown .nil pass0 (pa_cons (pv 1) (pa_cons (pv 4) (pa_cons (pv 5) (pa_cons (pv 11) pa_nil))))))
      (pss_cons (ps_if (PW.pt (pw_or (pt_not (pt_val (pe_call (E := E0) G__law_behind (hr.mono (by decide)) rfl g__law_behind k__law_behind b__law_behind .nil pass0 (pa_cons (pv 2) (pa_cons (pe_ix (ixt (K := K)) (pv 12) pe_int (fun _ _ => rfl)) (pa_cons (pv 11) (pa_cons pe_bl (pa_cons (pe_tup (pa_cons (pv 4) (pa_cons (pv 5) pa_nil))) pa_nil)))))))) (pw_or1 (pt_not (pt_val (pe_callB call_isi (by rfl) (B "isinstance" (by decide)) (by decide +kernel) (pa_cons (pv 12) (pa_cons (pe_bltn (v := .ty "tuple") rfl (B "tuple" (by decide)) (by decide +kernel) rfl) pa_nil)))))))) (pss_one (ps_ret pe_bl)) pss_nil)
      (pss_one (ps_if (PW.pt (pw_or (pt_not (pt_val (pe_call (E := E0) G__law_behind (hr.mono (by decide)) rfl g__law_behind k__law_behind b__law_behind .nil pass0 (pa_cons (pv 2) (pa_cons (pe_ix (ixt (K := K)) (pv 12) pe_int (fun _ _ => rfl)) (pa_cons (pv 11) (pa_cons pe_bl (pa_cons (pe_tup (pa_cons (pv 4) (pa_cons (pv 5) pa_nil))) pa_nil)))))))) (pw_or1 (pt_cmpR op_ne (pe_callB call_len_seq (by rfl) (B "len" (by decide)) (by decide +kernel) (pa_cons (pv 12) pa_nil)) pe_int (nomark _))))) (pss_one (ps_ret pe_bl)) pss_nil)))))
      (pss_cons (ps_if (pt_not (pt_val (pe_call (E := E0) G__law_contrary_right (hr.mono (by decide)) rfl g__law_contrary_right k__law_contrary_right b__law_contrary_right .nil pass0 (pa_cons (pv 0) (pa_cons (pv 1) (pa_cons (pv 2) (pa_cons (pv 4) (pa_cons (pv 5) pa_nil)))))))) (pss_one (ps_ret pe_bl)) pss_nil)
      (pss_cons (ps_par (i := 6) (j := 13) rfl scStr.nd rfl rfl (by decide) rfl rfl (pa_cons (pv 9) (pa_cons (pe_slice sl_list (pe_slice sl_list (pe_ix (ixt (K := K)) (pv 8) pe_int (fun _ _ => rfl)) (po_some (pe_op op_fdivW (pe_callB call_len_seq (by rfl) (B "len" (by decide)) (by decide +kernel) (pa_cons (pe_ix (ixt (K := K)) (pv 8) pe_int (fun _ _ => rfl)) pa_nil)) pe_int)) po_none) po_none (po_some pe_int)) pa_nil)) (by rfl))
      (pss_cons (ps_set (i := 5) scStr.nd rfl (Or.inr rfl) (pe_op op_cat (pv 5) (pe_lc (own := [("k", 15)]) (g := gName 15) rfl scStr.nd (pi_list (pv 13)) (blkOk_by (N := ["creel", "web", "here", "fell", "up", "down", "before", "turn", "due", "told", "lost", "spot", "pair", "fresh", "one", "k"]) (sc := defScope sStr) (by decide +kernel)) (fun _ _ _ _ _ => pg_name (i := 15) scStr.nd rfl (Or.inl rfl)) (fun _ _ _ _ _ => pts_one (pt_cmpR (inq (K := K)) (pv 15) (pv 3) (by rfl))) (fun _ _ _ _ _ => pv 15))))
      (pss_one (ps_set (i := 4) scStr.nd rfl (Or.inr rfl) (pe_op op_cat (pv 4) (pe_lc (own := [("k", 15)]) (g := gName 15) rfl scStr.nd (pi_list (pv 13)) (blkOk_by (N := ["creel", "web", "here", "fell", "up", "down", "before", "turn", "due", "told", "lost", "spot", "pair", "fresh", "one", "k"]) (sc := defScope sStr) (by decide +kernel)) (fun _ _ _ _ _ => pg_name (i := 15) scStr.nd rfl (Or.inl rfl)) (fun _ _ _ _ _ => pts_one (pt_cmpR (ninq (K := K)) (pv 15) (pv 3) (by rfl))) (fun _ _ _ _ _ => pv 15)))))))))))))))))
      (pss_one (ps_ret pe_bl)))))), ?_⟩
    have ty2 : sizeLine = 16777216 := sizeLine_eq
    have xl : xs.length = ls.length := by rw [dps_len dl, List.length_map]
    have here : ∀ {H'}, Bt c H H' → H' ha = some (.tup [.ref la, .ref fa]) ∧ H' la = some (.lst xs) ∧ DpAll K H' xs (ls.map lpD) ∧ H' fa = some (.lst (fs.map V.int)) := fun b => ⟨Tk.bt cr b _ _ (fun _ z => by cases z) hh, b _ _ la1 hl, lps_tk (Tk.bt cr b) dl, b _ _ fa1 hf⟩
    refine ⟨_, rfl, ha, _, 0, _, rfl, rfl, SqT.of hh, atI_nat (j := 0) rfl, _, rfl, ha, _, 1, _, rfl, rfl, SqT.of hh, atI_nat (j := 1) rfl, ?_⟩
    refine ⟨_, rfl, _, rfl, ha, _, 0, _, rfl, rfl, SqT.of hh, atI_nat (j := 0) rfl, la, _, rfl, .inl (SqL.of hl), ?_⟩
    rw [xl]
    refine ⟨c, ls.length, 5, _, rfl, by omega, by omega, cr, by omega, fun q0 H1 n0 nq0 cr1 b1 eq0 _ ok0 => ?_⟩
    obtain ⟨e1, e2, e3, e4⟩ := here b1
    refine ⟨la, fa, q0, xs, ls, fs, n0, rfl, SqL.of e2, e3, SqL.of e4, SqL.of eq0, by omega, fun F H2 nF s2' eF => ?_⟩
    have cr2 := cr1.same s2'
    have b2 := b1.trans (Bt.of s2')
    have Fc : F ≠ c := cr_ne cr1 nF
    rw [nI_cI] at eF
    have okF := fall_ok ls fs n0
    have lF := okF.len
    -- up
    obtain ⟨e1, e2, e3, e4⟩ := here b2
    refine ⟨_, rfl, _, rfl, ha, _, 0, _, rfl, rfl, SqT.of e1, atI_nat (j := 0) rfl, la, _, rfl, .inl (SqL.of e2), ?_⟩
    rw [xl]
    refine ⟨c, ls.length, 6, _, rfl, by omega, by omega, cr2, by omega, fun q1 H3 n1 nq1 cr3 b3' eq1 _ ok1 => ?_⟩
    have b3 := b2.trans b3'
    have eF3 := b3' _ _ Fc eF
    have lq1 := ok1.len
    refine ⟨q1, rfl, ⟨_, SqL.of eq1⟩, fun U nU => ?_⟩
    refine lc_list (K := K) (a := q1) (xs := n1.map V.int) (fun j H' => Same H3 H' ∧ H' U = some (.lst (((n1.take j).filter fun z => decide (z ∉ (cI (fallD ls fs n0)))).map V.int)))
      ⟨same_new nU, upd_same⟩ (fun j H' hj hg => SqL.of (hg.1 _ _ eq1)) (fun j y H' hy hg => ⟨rfl, ?_⟩) (fun H4 hg => ?_)
    · obtain ⟨sB, eJ⟩ := hg
      rw [List.getElem?_map] at hy
      obtain ⟨z, hz, rfl⟩ := Option.map_eq_some_iff.mp hy
      refine ⟨_, rfl, _, rfl, F, _, rfl, .inl (SqL.of (sB _ _ eF3)), rfl, flat_ints _, _, rfl, ?_⟩
      show if (!inV (.int z) ((cI (fallD ls fs n0)).map V.int)) = true then _ else _
      rw [inV_int, List.take_add_one, hz, Option.toList_some, List.filter_append]
      have lz := List.length_filter_le (fun z => decide (z ∉ (cI (fallD ls fs n0)))) (n1.take j)
      rw [List.length_take] at lz
      have lx : n1.length ≤ 1000 := by omega
      by_cases c : z ∈ (cI (fallD ls fs n0))
      · exact LK.ifF (by rw [decide_eq_true c]; rfl) ⟨sB, by rw [eJ, List.filter_cons, if_neg (by rw [decide_eq_true_eq]; exact fun n => n c), List.filter_nil, List.append_nil]⟩
      · refine LK.ifT (by rw [decide_eq_false c]; rfl) ⟨_, rfl, _, eJ, by rw [List.length_map]; omega, fun b o e => ?_, ?_⟩
        · rw [upd_ne (ne_of_none e nU)]
          exact sB _ _ e
        · rw [upd_same, List.map_append, List.filter_cons, if_pos (decide_eq_true c)]
          rfl
    obtain ⟨s4', eU⟩ := hg
    rw [List.length_map, List.take_length] at eU
    have cr4 := cr3.same s4'
    have b4 := b3.trans (Bt.of s4')
    have Uc : U ≠ c := cr_ne cr3 nU
    have eF4 := s4' _ _ eF3
    -- down
    obtain ⟨e1, e2, e3, e4⟩ := here b4
    refine ⟨_, rfl, _, rfl, ha, _, 0, _, rfl, rfl, SqT.of e1, atI_nat (j := 0) rfl, la, _, rfl, .inl (SqL.of e2), ?_⟩
    rw [xl]
    refine ⟨c, ls.length, 9, _, rfl, by omega, by omega, cr4, by omega, fun q2 H5 n2 nq2 cr5 b5' eq2 _ ok2 => ?_⟩
    have b5 := b4.trans b5'
    have eF5 := b5' _ _ Fc eF4
    have eU5 := b5' _ _ Uc eU
    have lq2 := ok2.len
    refine ⟨q2, rfl, ⟨_, SqL.of eq2⟩, fun X nX => ?_⟩
    refine lc_list (K := K) (a := q2) (xs := n2.map V.int) (fun j H' => Same H5 H' ∧ H' X = some (.lst (((n2.take j).filter fun z => decide (z ∈ (cI (fallD ls fs n0)))).map V.int)))
      ⟨same_new nX, upd_same⟩ (fun j H' hj hg => SqL.of (hg.1 _ _ eq2)) (fun j y H' hy hg => ⟨rfl, ?_⟩) (fun H6 hg => ?_)
    · obtain ⟨sB, eJ⟩ := hg
      rw [List.getElem?_map] at hy
      obtain ⟨z, hz, rfl⟩ := Option.map_eq_some_iff.mp hy
      refine ⟨_, rfl, _, rfl, F, _, rfl, .inl (SqL.of (sB _ _ eF5)), rfl, flat_ints _, _, rfl, ?_⟩
      show if (inV (.int z) ((cI (fallD ls fs n0)).map V.int)) = true then _ else _
      rw [inV_int, List.take_add_one, hz, Option.toList_some, List.filter_append]
      have lz := List.length_filter_le (fun z => decide (z ∈ (cI (fallD ls fs n0)))) (n2.take j)
      rw [List.length_take] at lz
      have lx : n2.length ≤ 1000 := by omega
      by_cases c : z ∈ (cI (fallD ls fs n0))
      · refine LK.ifT (decide_eq_true c) ⟨_, rfl, _, eJ, by rw [List.length_map]; omega, fun b o e => ?_, ?_⟩
        · rw [upd_ne (ne_of_none e nX)]
          exact sB _ _ e
        · rw [upd_same, List.map_append, List.filter_cons, if_pos (decide_eq_true c)]
          rfl
      · exact LK.ifF (decide_eq_false c) ⟨sB, by rw [eJ, List.filter_cons, if_neg (by rw [decide_eq_true_eq]; exact c), List.filter_nil, List.append_nil]⟩
    obtain ⟨s6', eX⟩ := hg
    rw [List.length_map, List.take_length] at eX
    refine ⟨_, rfl, _, _, rfl, SqL.of eX, fun D nD => ?_⟩
    obtain ⟨ds0, hds, sub⟩ := cut_ints (n2.filter fun z => decide (z ∈ cI (fallD ls fs n0))) none (some 5)
    rw [hds]
    have v7 := same_new (o := .lst (ds0.map V.int)) nD
    have s7 := s6'.trans v7
    have eD := upd_same (H := H6) (a := D) (o := .lst (ds0.map V.int))
    have cr7 := cr5.same s7
    have b7 := b5.trans (Bt.of s7)
    have Dc : D ≠ c := cr_ne (cr5.same s6') nD
    have eF7 := s7 _ _ eF5
    have eU7 := s7 _ _ eU5
    have okD0 : OkFs ls.length ds0 := ⟨(ok2.filt (f := fun z => decide (z ∈ cI (fallD ls fs n0)))).1.sublist sub, fun z hz => (ok2.filt (f := fun z => decide (z ∈ cI (fallD ls fs n0)))).2 z (sub.subset hz)⟩
    have dsF : ∀ z ∈ ds0, z ∈ cI (fallD ls fs n0) := fun z hz => of_decide_eq_true (List.mem_filter.mp (sub.subset hz)).2
    have okU0 : OkFs ls.length (n1.filter fun z => decide (z ∉ cI (fallD ls fs n0))) := ok1.filt
    have usF : ∀ z ∈ n1.filter (fun z => decide (z ∉ cI (fallD ls fs n0))), z ∉ cI (fallD ls fs n0) := fun z hz => of_decide_eq_true (List.mem_filter.mp hz).2
    generalize upd H6 D (.lst (ds0.map V.int)) = H7 at s7 eD cr7 b7 eF7 eU7
    generalize n1.filter (fun z => decide (z ∉ cI (fallD ls fs n0))) = us0 at eU7 okU0 usF
    clear v7 hds sub
    refine ⟨2, rfl, by decide, by decide, ?_⟩
    refine for_range (lo := 0) (n := 2) (fun i σ Hn => ∃ (U D : Addr) (us ds : List Int) (bv : V) (o7 o8 o9 o10 o11 o12 o13 o14 o15 : Option V), σ = [some (.ref c), some (.ref x), some (.ref ha), some (.ref F), some (.ref U), some (.ref D), some bv, o7, o8, o9, o10, o11, o12, o13, o14, o15] ∧ CR Hn c (N + 6000 + 5000 * i) ∧ Bt c H Hn ∧ U ≠ c ∧ D ≠ c ∧ Hn F = some (.lst ((cI (fallD ls fs n0)).map V.int)) ∧ Hn U = some (.lst (us.map V.int)) ∧ Hn D = some (.lst (ds.map V.int)) ∧ OkFs ls.length us ∧ OkFs ls.length ds ∧ (∀ z ∈ us, z ∉ cI (fallD ls fs n0)) ∧ (∀ z ∈ ds, z ∈ cI (fallD ls fs n0)) ∧ Bef c ls fs ms us ds Hn bv)
      ⟨U, D, us0, ds0, .non, _, _, _, _, _, _, _, _, _, rfl, cr7.mono (by omega), b7, Uc, Dc, eF7, eU7, eD, okU0, okD0, usF, dsF, .inl rfl⟩ (fun i σ Hn hi hI => ?_) (fun σ Hn hI => ?_)
    · clear eU7 eD okU0 okD0 usF dsF eF7 cr7 b7 s7 Uc Dc eU5 eF5 eU eF4 eX nX s6' nD nU s4'
      obtain ⟨U, D, us, ds, bv, o7, o8, o9, o10, o11, o12, o13, o14, o15, rfl, crn, bn, Uc, Dc, eF, eU, eD, oku, okd, hu, hd, bef⟩ := hI
      have ul := oku.len
      have dln := okd.len
      have fit := story_fit hms oku hu hd
      obtain ⟨e1, e2, e3, e4⟩ := here bn
      have icn := ic _ bn
      -- due
      refine ⟨_, rfl, _, rfl, _, rfl, by show 2 ≤ sizeLine; decide, fun t nt => ?_⟩
      have t1 := same_new (o := .tup [.ref U, .ref D]) nt
      refine ⟨ha, t, la, fa, U, D, xs, ls, fs, us, ds, rfl, t1 _ _ e1, t1 _ _ e2, dps_same t1 e3, t1 _ _ e4, upd_same, t1 _ _ eU, t1 _ _ eD, oku, okd, l60, fun dp d0 d1 d2 H8 ndp nd0 nd1 nd2 s8' edp ed0 ed1 ed2 => ?_⟩
      have s8 := t1.trans s8'
      have SM : ∀ k, k ∈ sureD ls fs us ds ↔ SureP (nearD ls ms ds) us k := fun k => sureD_mem hms par fit
      have OM : ∀ k, k ∈ openD ls fs us ds ↔ k < ls.length ∧ Open ls ms us ds k := fun k => openD_mem hms par fit
      have FE : fallD ls ms ds = fallD ls fs ds := fall_ms hms
      have RE := rest_is hms par fit
      have SA := sureD_asc ls fs us ds
      have OA := openD_asc ls fs us ds
      have lcan := can_len ls fs ds
      have lS : (sureD ls fs us ds).length ≤ 60 := by
        have := List.length_filter_le (lostB ls fs us ds) (canL ls fs ds)
        have e : (sureD ls fs us ds).length = ((canL ls fs ds).filter (lostB ls fs us ds)).length := rfl
        omega
      have lO : (openD ls fs us ds).length ≤ 60 := by
        have := List.length_filter_le (fun k => !lostB ls fs us ds k) (canL ls fs ds)
        have e : (openD ls fs us ds).length = ((canL ls fs ds).filter fun k => !lostB ls fs us ds k).length := rfl
        omega
      have lG : (fallD ls fs ds).length ≤ 60 := by
        have := (fall_ok ls fs ds).len
        rw [List.length_map] at this
        omega
      rw [nI_cI] at ed0 ed1 ed2
      have sur : ∀ (Hm : Hp) (Q' : VK) (E' : XK), Same Hn Hm → (∀ (p a b d : Addr) (H' : Hp), Hm p = none → Hm a = none → Hm b = none → Same Hm H' → H' p = some (.tup [.ref a, .ref b, .ref d]) → H' a = some (.lst ((cI (sureD ls fs us ds)).map V.int)) → H' b = some (.lst ((cI (fallD ls fs ds)).map V.int)) → H' d = some (.lst ((cI (openD ls fs us ds)).map V.int)) → Q' (.ref p) H') → spSur K CC [.ref x, .ref U, .ref D] Hm Q' E' := fun Hm Q' E' s q => ⟨x, U, D, ls, ms, us, ds, rfl, icn.same s, thin, lm, SqL.of (s _ _ eU), SqL.of (s _ _ eD), oku, okd, par, by omega, fit, fun sl pw mem p a b d H' np na nb nd s' e e1 e2 e3 => by
        obtain rfl : sl = sureD ls fs us ds := asc_eq pw SA fun k => (mem k).trans (SM k).symm
        rw [FE] at e2
        rw [RE] at e3
        rw [nI_cI] at e1 e2 e3
        exact q p a b d H' np na nb s' e e1 e2 e3⟩
      have shw : ∀ (Hm : Hp) (Q' : VK) (E' : XK) (j : Nat), Same Hn Hm → j < ls.length → (¬ Open ls ms us ds j → ∀ H', Same Hm H' → Q' .non H') → (Open ls ms us ds j → ∀ (p a b : Addr) (H' : Hp), Same Hm H' → H' p = some (.tup [.ref a, .ref b]) → H' a = some (.lst ((srt ds).map V.int)) → H' b = some (.lst ((srt (ds ++ [(j : Int)])).map V.int)) → Q' (.ref p) H') → spShw K CC [.ref x, .ref U, .ref D, .int (j : Int)] Hm Q' E' := fun Hm Q' E' j s jl q1 q2 => ⟨x, U, D, ls, ms, us, ds, j, rfl, icn.same s, thin, lm, SqL.of (s _ _ eU), s _ _ eD, oku, okd, par, by omega, jl, fit, q1, fun o p a b H' _ _ _ _ s' e e1 e2 => q2 o p a b H' s' e e1 e2⟩
      generalize hSD : sureD ls fs us ds = SD at *
      generalize hOD : openD ls fs us ds = OD at *
      clear hSD hOD RE
      -- told
      refine ⟨_, rfl, _, rfl, _, rfl, ?_⟩
      dsimp only [tNil, List.cons_append, List.nil_append]
      refine sur _ _ _ s8 fun p a b d H9 np na nb s9' ep ea eb ed => ?_
      have s9 := s8.trans s9'
      have dT : ∀ {H' : Hp} {p a b c : Addr}, H' p = some (.tup [.ref a, .ref b, .ref c]) → H' a = some (.lst ((cI SD).map V.int)) → H' b = some (.lst ((cI (fallD ls fs ds)).map V.int)) → H' c = some (.lst ((cI OD).map V.int)) → Dp K H' (.ref p) (.tuple [.list ((cI SD).map PyData.int), .list ((cI (fallD ls fs ds)).map PyData.int), .list ((cI OD).map PyData.int)]) := fun e e1 e2 e3 => .tup (SqT.of e) (.cons (.lst (SqL.of e1) (dp_ints_of _)) (.cons (.lst (SqL.of e2) (dp_ints_of _)) (.cons (.lst (SqL.of e3) (dp_ints_of _)) .nil)))
      obtain ⟨y1, y2, y3⟩ := three3 (cI SD) (cI (fallD ls fs ds)) (cI OD) (by rw [List.length_map]; omega) (by rw [List.length_map]; omega) (by rw [List.length_map]; omega)
      -- fits, told as due
      refine ⟨_, rfl, _, rfl, _, rfl, x, U, D, ls, ms, us, ds, rfl, icn.same s9, thin, lm, SqL.of (s9 _ _ eU), SqL.of (s9 _ _ eD), oku, okd, fun H10 s10' => ?_⟩
      rw [fit]
      have s10 := s9.trans s10'
      refine ⟨true, true, rfl, rfl, _, rfl, LK.ifF rfl ?_⟩
      have s8x := s9'.trans s10'
      refine ⟨_, rfl, _, rfl, .ref p, .ref dp, _, rfl, dT (s10' _ _ ep) (s10' _ _ ea) (s10' _ _ eb) (s10' _ _ ed), dT (s8x _ _ edp) (s8x _ _ ed0) (s8x _ _ ed1) (s8x _ _ ed2), y1, by omega, by omega, y3, fun H11 s11' => ⟨_, rfl, LK.ifF rfl ?_⟩⟩
      have s11 := s10.trans s11'
      have s8y := s8x.trans s11'
      have edp11 := s8y _ _ edp
      have ed0 := s8y _ _ ed0
      have ed1 := s8y _ _ ed1
      have ed2 := s8y _ _ ed2
      have s9x := s10'.trans s11'
      have ep11 := s9x _ _ ep
      have ea11 := s9x _ _ ea
      have eb11 := s9x _ _ eb
      have eF11 := s11 _ _ eF
      have pcs : a ≠ c ∧ b ≠ c := ⟨cr_ne (crn.same s8) na, cr_ne (crn.same s8) nb⟩
      clear ed ep ea eb edp s10' s9' s8x s9x s8y
      -- least_run
      refine ⟨_, rfl, _, rfl, _, rfl, x, U, D, ls, ms, us, ds, rfl, icn.same s11, thin, lm, SqL.of (s11 _ _ eU), SqL.of (s11 _ _ eD), oku, okd, fun _ q H12 nq s12' eq => ?_, fun f => ?_⟩
      rotate_left
      · rw [fit] at f
        cases f
      have s12 := s11.trans s12'
      rw [FE, nI_cI] at eq
      obtain ⟨z1, z2⟩ := lay_ints (cI (fallD ls fs ds))
      refine ⟨_, rfl, dp, _, 1, _, rfl, rfl, SqT.of (s12' _ _ edp11), atI_nat (j := 1) rfl, .ref q, .ref d1, .list ((cI (fallD ls fs ds)).map PyData.int), rfl, .lst (SqL.of eq) (dp_ints_of _), .lst (SqL.of (s12' _ _ ed1)) (dp_ints_of _), by simpa only [PyData.canLay0] using z1, by simp only [PyData.depth, z2]; omega, by simp only [PyData.depth, z2]; omega, ?_, fun H13 s13' => ⟨_, rfl, LK.ifF rfl ?_⟩⟩
      · unfold few
        rw [few_ints, Bool.and_true, List.length_map, List.length_map]
        exact decide_eq_true (by omega)
      have s13 := s12.trans s13'
      have s1113 := s12'.trans s13'
      have edp13 := s1113 _ _ edp11
      have ed0 := s1113 _ _ ed0
      have ed1 := s1113 _ _ ed1
      have ed2 := s1113 _ _ ed2
      have ep13 := s1113 _ _ ep11
      have ea13 := s1113 _ _ ea11
      have eb13 := s1113 _ _ eb11
      have eF13 := s1113 _ _ eF11
      clear edp11 ep11 ea11 eb11 eF11 s12' s13' s1113 eq nq
      have goneF : ∀ z ∈ cI (fallD ls fs ds), z ∈ cI (fallD ls fs n0) := fun z hz => by
        obtain ⟨k, hk, rfl⟩ := List.mem_map.mp hz
        exact memI.mpr (gone_sub hd k hk)
      have sureF : ∀ z ∈ cI SD, z ∉ cI (fallD ls fs n0) := fun z hz m => by
        obtain ⟨k, hk, rfl⟩ := List.mem_map.mp hz
        exact sure_stands hms par oku hu hd ((SM k).mp hk) (memI.mp m)
      refine ⟨_, rfl, dp, _, 1, _, rfl, rfl, SqT.of edp13, atI_nat (j := 1) rfl, d1, rfl, ⟨_, SqL.of ed1⟩, fun Ja nJa => ?_⟩
      refine lc_list (K := K) (a := d1) (xs := (cI (fallD ls fs ds)).map V.int) (fun j H' => Same H13 H' ∧ H' Ja = some (.lst []))
        ⟨same_new nJa, upd_same⟩ (fun j H' hj hg => SqL.of (hg.1 _ _ ed1)) (fun j y H' hy hg => ⟨rfl, ?_⟩) (fun H14 hg => ?_)
      · obtain ⟨sB, eJ⟩ := hg
        rw [List.getElem?_map] at hy
        obtain ⟨z, hz, rfl⟩ := Option.map_eq_some_iff.mp hy
        have hz' := goneF z (List.mem_of_getElem? hz)
        refine ⟨_, rfl, _, rfl, F, _, rfl, .inl (SqL.of (sB _ _ eF13)), rfl, flat_ints _, _, rfl, LK.ifF ?_ ⟨sB, eJ⟩⟩
        rw [inV_int]
        rw [decide_eq_true hz']
        rfl
      obtain ⟨s14', eJa⟩ := hg
      refine ⟨by show 0 ≤ sizeLine; decide, fun e ne => ?_⟩
      have u1 := same_new (o := .lst []) ne
      refine ⟨.list [], .list [], .lst (SqL.of (u1 _ _ eJa)) .nil, .lst (SqL.of upd_same) .nil, sh_ints [], sh_ints [], _, rfl, LK.ifF rfl ?_⟩
      have w14 := s14'.trans u1
      generalize upd H14 e (.lst []) = H15 at w14
      clear eJa nJa s14' u1 ne
      refine ⟨_, rfl, p, _, 0, _, rfl, rfl, SqT.of (w14 _ _ ep13), atI_nat (j := 0) rfl, a, rfl, ⟨_, SqL.of (w14 _ _ ea13)⟩, fun Jb nJb => ?_⟩
      refine lc_list (K := K) (a := a) (xs := (cI SD).map V.int) (fun j H' => Same H15 H' ∧ H' Jb = some (.lst []))
        ⟨same_new nJb, upd_same⟩ (fun j H' hj hg => SqL.of (hg.1 _ _ (w14 _ _ ea13))) (fun j y H' hy hg => ⟨rfl, ?_⟩) (fun H16 hg => ?_)
      · obtain ⟨sB, eJ⟩ := hg
        rw [List.getElem?_map] at hy
        obtain ⟨z, hz, rfl⟩ := Option.map_eq_some_iff.mp hy
        have hz' := sureF z (List.mem_of_getElem? hz)
        refine ⟨_, rfl, _, rfl, F, _, rfl, .inl (SqL.of (sB _ _ (w14 _ _ eF13))), rfl, flat_ints _, _, rfl, LK.ifF ?_ ⟨sB, eJ⟩⟩
        rw [inV_int]
        rw [decide_eq_false hz']
        rfl
      obtain ⟨s16', eJb⟩ := hg
      refine ⟨by show 0 ≤ sizeLine; decide, fun e ne => ?_⟩
      have u1 := same_new (o := .lst []) ne
      refine ⟨.list [], .list [], .lst (SqL.of (u1 _ _ eJb)) .nil, .lst (SqL.of upd_same) .nil, sh_ints [], sh_ints [], _, rfl, LK.ifF rfl ?_⟩
      have w16 := w14.trans (s16'.trans u1)
      generalize upd H16 e (.lst []) = H17 at w16
      clear eJb nJb s16' u1 ne
      have s17 := s13.trans w16
      have edp17 := w16 _ _ edp13
      have ed0 := w16 _ _ ed0
      have ed1 := w16 _ _ ed1
      have ed2 := w16 _ _ ed2
      have ep17 := w16 _ _ ep13
      have ea17 := w16 _ _ ea13
      have eb17 := w16 _ _ eb13
      clear edp13 ep13 ea13 eb13 w14 w16
      -- the turn before
      dsimp only [tNext, tSeq]
      refine stJ (t := tIfS _ _ _) (fun σ Hm => ∃ (o10 o15 : Option V), σ = [some (.ref c), some (.ref x), some (.ref ha), some (.ref F), some (.ref U), some (.ref D), some bv, some (.int (0 + (i : Int))), some (.ref dp), some (.ref p), o10, o11, o12, o13, o14, o15] ∧ Same H17 Hm) (fun D' aft => ?_) ?_
      · rcases bef with rfl | ⟨bp, ba, bb, bd, SB, GB, rfl, ba1, bb1, ebp, eba, ebb, hSB, hGB, lSB, lGB⟩
        · exact ⟨_, rfl, rfl, _, rfl, LK.ifF rfl (aft _ _ ⟨_, _, rfl, Same.refl H17⟩)⟩
        · have bAll : Same Hn H17 := s17
          have ebp17 := bAll _ _ ebp
          have eba17 := bAll _ _ eba
          have ebb17 := bAll _ _ ebb
          have inS : ∀ z ∈ cI SB, z ∈ cI SD := fun z hz => by
            obtain ⟨k, hk, rfl⟩ := List.mem_map.mp hz
            exact memI.mpr ((SM k).mpr (hSB k hk))
          have inG : ∀ z ∈ cI GB, z ∈ cI (fallD ls fs ds) := fun z hz => by
            obtain ⟨k, hk, rfl⟩ := List.mem_map.mp hz
            exact memI.mpr (hGB k hk)
          refine ⟨_, rfl, rfl, _, rfl, LK.ifT rfl ?_⟩
          refine ⟨_, rfl, bp, _, 0, _, rfl, rfl, SqT.of ebp17, atI_nat (j := 0) rfl, ba, rfl, ⟨_, SqL.of eba17⟩, fun Jc nJc => ?_⟩
          refine lc_list (K := K) (a := ba) (xs := (cI SB).map V.int) (fun j H' => Same H17 H' ∧ H' Jc = some (.lst []))
            ⟨same_new nJc, upd_same⟩ (fun j H' hj hg => SqL.of (hg.1 _ _ eba17)) (fun j y H' hy hg => ⟨rfl, ?_⟩) (fun H19 hg => ?_)
          · obtain ⟨sB, eJ⟩ := hg
            rw [List.getElem?_map] at hy
            obtain ⟨z, hz, rfl⟩ := Option.map_eq_some_iff.mp hy
            have hz' := inS z (List.mem_of_getElem? hz)
            refine ⟨_, rfl, _, rfl, p, _, 0, _, rfl, rfl, SqT.of (sB _ _ ep17), atI_nat (j := 0) rfl, a, _, rfl, .inl (SqL.of (sB _ _ ea17)), rfl, flat_ints _, _, rfl, LK.ifF ?_ ⟨sB, eJ⟩⟩
            rw [inV_int]
            rw [decide_eq_true hz']
            rfl
          obtain ⟨s19', eJc⟩ := hg
          have ebp19 := s19' _ _ ebp17
          refine ⟨_, rfl, bp, _, 1, _, rfl, rfl, SqT.of ebp19, atI_nat (j := 1) rfl, bb, rfl, ⟨_, SqL.of (s19' _ _ ebb17)⟩, fun Jd nJd => ?_⟩
          refine lc_list (K := K) (a := bb) (xs := (cI GB).map V.int) (fun j H' => Same H19 H' ∧ H' Jd = some (.lst []))
            ⟨same_new nJd, upd_same⟩ (fun j H' hj hg => SqL.of (hg.1 _ _ (s19' _ _ ebb17))) (fun j y H' hy hg => ⟨rfl, ?_⟩) (fun H20 hg => ?_)
          · obtain ⟨sB, eJ⟩ := hg
            rw [List.getElem?_map] at hy
            obtain ⟨z, hz, rfl⟩ := Option.map_eq_some_iff.mp hy
            have hz' := inG z (List.mem_of_getElem? hz)
            refine ⟨_, rfl, _, rfl, p, _, 1, _, rfl, rfl, SqT.of (sB _ _ (s19' _ _ ep17)), atI_nat (j := 1) rfl, b, _, rfl, .inl (SqL.of (sB _ _ (s19' _ _ eb17))), rfl, flat_ints _, _, rfl, LK.ifF ?_ ⟨sB, eJ⟩⟩
            rw [inV_int]
            rw [decide_eq_true hz']
            rfl
          obtain ⟨s20', eJd⟩ := hg
          have eJc20 := s20' _ _ eJc
          refine ⟨Jc, Jd, _, _, rfl, rfl, eJc20, eJd, by show 0 ≤ sizeLine; decide, fun W nW => ?_⟩
          have u1 := same_new (o := .lst (([] : List V) ++ [])) nW
          refine ⟨_, rfl, by show 0 ≤ sizeLine; decide, fun e ne => ?_⟩
          have u2 := same_new (o := .lst []) ne
          refine ⟨.list [], .list [], .lst (SqL.of (u2 _ _ upd_same)) .nil, .lst (SqL.of upd_same) .nil, sh_ints [], sh_ints [], _, rfl, LK.ifF rfl ?_⟩
          exact aft _ _ ⟨_, _, rfl, s19'.trans (s20'.trans (u1.trans u2))⟩
      · rintro σ H18 ⟨o10, o15, rfl, s18'⟩
        have s18 := s17.trans s18'
        have edp18 := s18' _ _ edp17
        have ed0 := s18' _ _ ed0
        have ed1 := s18' _ _ ed1
        have ed2 := s18' _ _ ed2
        have ep18 := s18' _ _ ep17
        have ea18 := s18' _ _ ea17
        have eb18 := s18' _ _ eb17
        -- sure and gone: nothing shown
        obtain ⟨c0, hc0, sb0⟩ := cut_ints (cI SD) none (some 2)
        obtain ⟨c1, hc1, sb1⟩ := cut_ints (cI (fallD ls fs ds)) none (some 2)
        have lc0 := sb0.length_le
        have lc1 := sb1.length_le
        rw [List.length_map] at lc0 lc1
        refine ⟨_, rfl, dp, _, 0, _, rfl, rfl, SqT.of edp18, atI_nat (j := 0) rfl, _, rfl, d0, _, rfl, SqL.of ed0, fun w0 nw0 => ?_⟩
        rw [hc0]
        have u1 := same_new (o := .lst (c0.map V.int)) nw0
        refine ⟨_, rfl, dp, _, 1, _, rfl, rfl, SqT.of (u1 _ _ edp18), atI_nat (j := 1) rfl, _, rfl, d1, _, rfl, SqL.of (u1 _ _ ed1), fun w1 nw1 => ?_⟩
        rw [hc1]
        have u2' := same_new (o := .lst (c1.map V.int)) nw1
        have u2 := u1.trans u2'
        refine ⟨w0, w1, _, _, rfl, rfl, u2' _ _ upd_same, upd_same, by simp only [List.length_map]; omega, fun W nW => ?_⟩
        have u3 := u2.trans (same_new (o := .lst (c0.map V.int ++ c1.map V.int)) nW)
        have eW : upd (upd (upd H18 w0 (.lst (c0.map V.int))) w1 (.lst (c1.map V.int))) W (.lst (c0.map V.int ++ c1.map V.int)) W = some (.lst ((c0 ++ c1).map V.int)) := by rw [upd_same, List.map_append]
        generalize upd (upd (upd H18 w0 (.lst (c0.map V.int))) w1 (.lst (c1.map V.int))) W (.lst (c0.map V.int ++ c1.map V.int)) = H21 at u3 eW
        clear u2 u2' u1 nw0 nw1 nW hc0 hc1
        have s21 := s18.trans u3
        refine ⟨W, rfl, ⟨_, SqL.of eW⟩, fun Je nJe => ?_⟩
        refine lc_list (K := K) (a := W) (xs := (c0 ++ c1).map V.int) (fun j H' => Same H21 H' ∧ H' Je = some (.lst []))
          ⟨same_new nJe, upd_same⟩ (fun j H' hj hg => SqL.of (hg.1 _ _ eW)) (fun j y Hx hy hg => ⟨rfl, ?_⟩) (fun H22 hg => ?_)
        · obtain ⟨sx, eJ⟩ := hg
          rw [List.getElem?_map] at hy
          obtain ⟨z, hz, rfl⟩ := Option.map_eq_some_iff.mp hy
          have nop : ∃ j : Nat, z = (j : Int) ∧ j < ls.length ∧ ¬ Open ls ms us ds j := by
            rcases List.mem_append.mp (List.mem_of_getElem? hz) with hz | hz
            · obtain ⟨j, hj, rfl⟩ := List.mem_map.mp (sb0.subset hz)
              have h := (SM j).mp hj
              exact ⟨j, rfl, upL_lt (Nat.le_refl _) (sure_up par fit h), fun o => o.2 h⟩
            · obtain ⟨j, hj, rfl⟩ := List.mem_map.mp (sb1.subset hz)
              exact ⟨j, rfl, (fall_mem.mp hj).1, fun o => o.1 (by rw [FE]; exact hj)⟩
          obtain ⟨j, rfl, jl, no⟩ := nop
          refine ⟨_, rfl, _, rfl, _, rfl, _, rfl, ?_⟩
          dsimp only [tNil, List.cons_append, List.nil_append]
          exact shw _ _ _ j (s21.trans sx) jl (fun _ H' s' => ⟨rfl, _, rfl, LK.ifF rfl ⟨sx.trans s', s' _ _ eJ⟩⟩) fun o => absurd o no
        obtain ⟨s22', eJe⟩ := hg
        refine ⟨by show 0 ≤ sizeLine; decide, fun e ne => ?_⟩
        have u := same_new (o := .lst []) ne
        refine ⟨.list [], .list [], .lst (SqL.of (u _ _ eJe)) .nil, .lst (SqL.of upd_same) .nil, sh_ints [], sh_ints [], _, rfl, LK.ifF rfl ?_⟩
        have w23 := u3.trans (s22'.trans u)
        generalize upd H22 e (.lst []) = H23 at w23
        clear eJe nJe s22' u ne s21 u3 eW
        have s23 := s18.trans w23
        have edp23 := w23 _ _ edp18
        have ed0 := w23 _ _ ed0
        have ed1 := w23 _ _ ed1
        have ed2 := w23 _ _ ed2
        have ep23 := w23 _ _ ep18
        have ea23 := w23 _ _ ea18
        have eb23 := w23 _ _ eb18
        clear edp18 ep18 ea18 eb18 w23
        -- what stays open
        obtain ⟨c2, hc2, sb2⟩ := cut_ints (cI OD) none (some 2)
        obtain ⟨c3, hc3, sb3⟩ := cut_ints (cI OD) (some (-1)) none
        have lc2 := sb2.length_le
        have lc3 := sb3.length_le
        rw [List.length_map] at lc2 lc3
        refine ⟨_, rfl, dp, _, 2, _, rfl, rfl, SqT.of edp23, atI_nat (j := 2) rfl, _, rfl, d2, _, rfl, SqL.of ed2, fun w0 nw0 => ?_⟩
        rw [hc2]
        have u1 := same_new (o := .lst (c2.map V.int)) nw0
        refine ⟨_, rfl, dp, _, 2, _, rfl, rfl, SqT.of (u1 _ _ edp23), atI_nat (j := 2) rfl, _, rfl, _, rfl, d2, _, rfl, SqL.of (u1 _ _ ed2), fun w1 nw1 => ?_⟩
        rw [hc3]
        have u2' := same_new (o := .lst (c3.map V.int)) nw1
        have u2 := u1.trans u2'
        refine ⟨w0, w1, _, _, rfl, rfl, u2' _ _ upd_same, upd_same, by simp only [List.length_map]; omega, fun W nW => ?_⟩
        have u3 := u2.trans (same_new (o := .lst (c2.map V.int ++ c3.map V.int)) nW)
        have eW : upd (upd (upd H23 w0 (.lst (c2.map V.int))) w1 (.lst (c3.map V.int))) W (.lst (c2.map V.int ++ c3.map V.int)) W = some (.lst ((c2 ++ c3).map V.int)) := by rw [upd_same, List.map_append]
        generalize upd (upd (upd H23 w0 (.lst (c2.map V.int))) w1 (.lst (c3.map V.int))) W (.lst (c2.map V.int ++ c3.map V.int)) = H24 at u3 eW
        clear u2 u2' u1 nw0 nw1 nW hc2 hc3
        have s24 := s23.trans u3
        refine ⟨W, rfl, ⟨_, SqL.of eW⟩, ?_⟩
        refine for_list (K := K) (a := W) (xs := (c2 ++ c3).map V.int) (fun i' σ Hm => ∃ (o11 o12 : Option V), σ = [some (.ref c), some (.ref x), some (.ref ha), some (.ref F), some (.ref U), some (.ref D), some bv, some (.int (0 + (i : Int))), some (.ref dp), some (.ref p), o10, o11, o12, o13, o14, o15] ∧ Same H24 Hm)
          ⟨_, _, rfl, Same.refl H24⟩ (fun i' σ Hm hi hI => by obtain ⟨_, _, _, s⟩ := hI; exact SqL.of (s _ _ eW)) (fun i' y σ Hm hy hI => ?_) (fun σ H25 hI => ?_)
        · obtain ⟨o11, o12, rfl, s⟩ := hI
          rw [List.getElem?_map] at hy
          obtain ⟨z, hz, rfl⟩ := Option.map_eq_some_iff.mp hy
          have isO : ∃ j : Nat, z = (j : Int) ∧ j ∈ OD := by
            rcases List.mem_append.mp (List.mem_of_getElem? hz) with hz | hz
            · obtain ⟨j, hj, rfl⟩ := List.mem_map.mp (sb2.subset hz)
              exact ⟨j, rfl, hj⟩
            · obtain ⟨j, hj, rfl⟩ := List.mem_map.mp (sb3.subset hz)
              exact ⟨j, rfl, hj⟩
          obtain ⟨j, rfl, jo⟩ := isO
          obtain ⟨jl, op⟩ := (OM j).mp jo
          have nj : (j : Int) ∉ ds := fun m => op.1 (fall_cut jl m)
          have ok2 : OkFs ls.length (ds ++ [(j : Int)]) := ok_more okd nj ⟨by omega, by omega⟩
          have m1 : ∀ z, z ∈ srt ds ↔ z ∈ ds := fun z => (srt_perm ds).mem_iff
          have m2 : ∀ z, z ∈ srt (ds ++ [(j : Int)]) ↔ z ∈ ds ++ [(j : Int)] := fun z => (srt_perm _).mem_iff
          have U1 : ∀ k, k ∈ upL ls fs (srt ds) ls.length ↔ k ∈ upL ls ms ds ls.length := fun k => by rw [← upL_ms hms]; exact up_perm m1
          have U2 : ∀ k, k ∈ upL ls fs (srt (ds ++ [(j : Int)])) ls.length ↔ k ∈ upL ls ms (ds ++ [(j : Int)]) ls.length := fun k => by rw [← upL_ms hms]; exact up_perm m2
          have fit2 := open_fits par fit op.2
          have jup : j ∈ upL ls ms ds ls.length := Classical.byContradiction fun q => op.1 (fall_mem.mpr ⟨jl, q⟩)
          dsimp only [gName, List.set, tSeq]
          refine ⟨_, rfl, _, rfl, _, rfl, _, rfl, ?_⟩
          dsimp only [tNil, List.cons_append, List.nil_append]
          refine shw _ _ _ j (s24.trans s) jl (fun n => absurd op n) fun _ pr pa pb H' s' epr epa epb => ?_
          have sA := (s24.trans s).trans s'
          have dT2 : ∀ {H' : Hp} {p a b : Addr}, H' p = some (.tup [.ref a, .ref b]) → H' a = some (.lst ((srt ds).map V.int)) → H' b = some (.lst ((srt (ds ++ [(j : Int)])).map V.int)) → Dp K H' (.ref p) (.tuple [.list ((srt ds).map PyData.int), .list ((srt (ds ++ [(j : Int)])).map PyData.int)]) := fun e1 e2 e3 => .tup (SqT.of e1) (.cons (.lst (SqL.of e2) (dp_ints_of _)) (.cons (.lst (SqL.of e3) (dp_ints_of _)) .nil))
          have hereS : ∀ {H'}, Same Hn H' → H' ha = some (.tup [.ref la, .ref fa]) ∧ H' la = some (.lst xs) ∧ DpAll K H' xs (ls.map lpD) ∧ H' fa = some (.lst (fs.map V.int)) := fun s => here (bn.trans (Bt.of s))
          refine ⟨_, rfl, _, rfl, pr, _, 0, _, rfl, rfl, SqT.of epr, atI_nat (j := 0) rfl, _, rfl, _, rfl, _, rfl, by show 2 ≤ sizeLine; decide, fun tq ntq => ?_⟩
          have u1 := same_new (o := .tup [.ref U, .ref D]) ntq
          have sB := sA.trans u1
          obtain ⟨g1, g2, g3, g4⟩ := hereS sB
          refine ⟨ha, pa, tq, la, fa, U, D, xs, ls, fs, srt ds, us, ds, j, true, rfl, g1, g2, g3, g4, u1 _ _ epa, srt_lt okd.1, okd.perm (srt_perm ds), decide_eq_true ((U1 j).mpr jup), upd_same, sB _ _ eU, sB _ _ eD, fun z hz => ?_, fun z hz m => ?_, l60, fun H2' s2' => ⟨_, rfl, LK.ifF rfl ?_⟩⟩
          · obtain ⟨k, rfl, hk⟩ := fits_up fit hz
            exact memI.mpr (List.mem_reverse.mpr ((U1 k).mpr hk))
          · obtain ⟨k, hk, rfl⟩ := List.mem_map.mp m
            exact upL_cut (List.mem_reverse.mp hk) ((m1 _).mpr hz)
          have u2 := u1.trans s2'
          have epr2 := u2 _ _ epr
          have epa2 := u2 _ _ epa
          have epb2 := u2 _ _ epb
          refine ⟨_, rfl, _, _, _, _, _, rfl, .ty "tuple", dp_ty (dT2 epr2 epa2 epb2), kit_d (dT2 epr2 epa2 epb2) "tuple" (by decide), _, rfl, LK.ifF rfl ?_⟩
          refine ⟨_, rfl, _, rfl, pr, _, 1, _, rfl, rfl, SqT.of epr2, atI_nat (j := 1) rfl, _, rfl, _, rfl, _, rfl, by show 2 ≤ sizeLine; decide, fun tq2 ntq2 => ?_⟩
          have u3' := same_new (o := .tup [.ref U, .ref D]) ntq2
          have sC := (sA.trans u2).trans u3'
          obtain ⟨g1, g2, g3, g4⟩ := hereS sC
          refine ⟨ha, pb, tq2, la, fa, U, D, xs, ls, fs, srt (ds ++ [(j : Int)]), us, ds, j, false, rfl, g1, g2, g3, g4, u3' _ _ epb2, srt_lt ok2.1, ok2.perm (srt_perm _), decide_eq_false fun q => ?_, upd_same, sC _ _ eU, sC _ _ eD, fun z hz => ?_, fun z hz m => ?_, l60, fun H3' s3' => ⟨_, rfl, LK.ifF rfl ?_⟩⟩
          · exact upL_cut ((U2 j).mp q) (List.mem_append_right _ (List.mem_singleton.mpr rfl))
          · obtain ⟨k, rfl, hk⟩ := fits_up fit2 hz
            exact memI.mpr (List.mem_reverse.mpr ((U2 k).mpr hk))
          · obtain ⟨k, hk, rfl⟩ := List.mem_map.mp m
            exact upL_cut (List.mem_reverse.mp hk) ((m2 _).mpr (List.mem_append_left _ hz))
          exact ⟨_, rfl, pr, _, rfl, .inr (SqT.of (s3' _ _ (u3' _ _ epr2))), rfl, _, rfl, LK.ifF rfl ⟨_, _, rfl, ((s.trans s').trans u2).trans (u3'.trans s3')⟩⟩
        · obtain ⟨o11, o12, rfl, s25'⟩ := hI
          have s25 := s24.trans s25'
          have w25 := u3.trans s25'
          have cr25 := crn.same s25
          have bb25 := bn.trans (Bt.of s25)
          obtain ⟨g1, g2, g3, g4⟩ := here bb25
          have d2c : d2 ≠ c := cr_ne (crn.same t1) nd2
          -- one more that is seen
          refine ⟨_, rfl, _, rfl, _, rfl, _, rfl, _, rfl, c, x, ha, U, D, la, fa, xs, ls, fs, ms, us, ds, N + 6000 + 5000 * i, rfl, cr25, by omega, fun H' b => ic _ (bb25.trans b), hms, par, l60, thin, lm, g1, g2, g3, g4, la1, fa1, Uc, Dc, s25 _ _ eU, s25 _ _ eD, oku, okd, fun H26 cr26 b26' => ⟨_, rfl, LK.ifF rfl ?_⟩⟩
          have edp26 := Tk.bt cr25 b26' _ _ (fun _ z => by cases z) (w25 _ _ edp23)
          have ep26 := Tk.bt cr25 b26' _ _ (fun _ z => by cases z) (w25 _ _ ep23)
          have ed26 := b26' _ _ d2c (w25 _ _ ed2)
          have ea26 := b26' _ _ pcs.1 (w25 _ _ ea23)
          have eb26 := b26' _ _ pcs.2 (w25 _ _ eb23)
          have eU26 := b26' _ _ Uc (s25 _ _ eU)
          have eD26 := b26' _ _ Dc (s25 _ _ eD)
          have eF26 := b26' _ _ Fc (s25 _ _ eF)
          have bb26 := bb25.trans b26'
          refine ⟨_, rfl, _, rfl, dp, _, 2, _, rfl, rfl, SqT.of edp26, atI_nat (j := 2) rfl, ?_⟩
          refine ⟨_, rfl, dp, _, 2, _, rfl, rfl, SqT.of edp26, atI_nat (j := 2) rfl, d2, _, rfl, .inl (SqL.of ed26), _, _, rfl, rfl, ?_, _, rfl, d2, _, rfl, SqL.of ed26, fun w0 nw0 => ?_⟩
          · exact ⟨by decide, by decide +kernel⟩
          obtain ⟨c4, hc4, sb4⟩ := cut_ints (cI OD) (some ((((cI OD).map V.int).length : Int) / 2)) none
          rw [hc4]
          have u1 := same_new (o := .lst (c4.map V.int)) nw0
          refine ⟨_, rfl, w0, _, rfl, SqL.of upd_same, fun fr nfr => ?_⟩
          obtain ⟨c5, hc5, sb5⟩ := cut_ints c4 none (some 1)
          rw [hc5]
          have u2 := u1.trans (same_new (o := .lst (c5.map V.int)) nfr)
          have efr := upd_same (H := upd H26 w0 (.lst (c4.map V.int))) (a := fr) (o := .lst (c5.map V.int))
          refine ⟨_, _, rfl, ?_⟩
          generalize upd (upd H26 w0 (.lst (c4.map V.int))) fr (.lst (c5.map V.int)) = H27 at u2 efr
          have okO : OkFs ls.length (cI OD) := ⟨(cI_asc OA).imp fun a => by omega, fun z hz => by
            obtain ⟨k, hk, rfl⟩ := List.mem_map.mp hz
            have := ((OM k).mp hk).1
            omega⟩
          have sub5 : List.Sublist c5 (cI OD) := sb5.trans sb4
          have ok5 : OkFs ls.length c5 := ⟨okO.1.sublist sub5, fun z hz => okO.2 z (sub5.subset hz)⟩
          have l5 := ok5.len
          have op5 : ∀ z ∈ c5, z ∉ ds ∧ z ∉ us := fun z hz => by
            obtain ⟨k, hk, rfl⟩ := List.mem_map.mp (sub5.subset hz)
            obtain ⟨kl, o⟩ := (OM k).mp hk
            exact ⟨fun m => o.1 (fall_cut kl m), fun m => o.2 ⟨_, m, .here (by rw [Int.toNat_natCast, (nearD_ok par).2]; exact kl)⟩⟩
          have eF27 := u2 _ _ eF26
          have cr27 := cr26.same u2
          clear u1 nfr nw0 hc4 hc5
          -- down
          refine ⟨_, rfl, _, rfl, fr, rfl, ⟨_, SqL.of efr⟩, fun Jf nJf => ?_⟩
          refine lc_list (K := K) (a := fr) (xs := c5.map V.int) (fun j H' => Same H27 H' ∧ H' Jf = some (.lst (((c5.take j).filter fun z => decide (z ∈ (cI (fallD ls fs n0)))).map V.int)))
            ⟨same_new nJf, upd_same⟩ (fun j H' hj hg => SqL.of (hg.1 _ _ efr)) (fun j y H' hy hg => ⟨rfl, ?_⟩) (fun H28 hg => ?_)
          · obtain ⟨sB, eJ⟩ := hg
            rw [List.getElem?_map] at hy
            obtain ⟨z, hz, rfl⟩ := Option.map_eq_some_iff.mp hy
            refine ⟨_, rfl, _, rfl, F, _, rfl, .inl (SqL.of (sB _ _ eF27)), rfl, flat_ints _, _, rfl, ?_⟩
            show if (inV (.int z) ((cI (fallD ls fs n0)).map V.int)) = true then _ else _
            rw [inV_int, List.take_add_one, hz, Option.toList_some, List.filter_append]
            have lz := List.length_filter_le (fun z => decide (z ∈ (cI (fallD ls fs n0)))) (c5.take j)
            rw [List.length_take] at lz
            have lx : c5.length ≤ 1000 := by omega
            by_cases c : z ∈ (cI (fallD ls fs n0))
            · refine LK.ifT (decide_eq_true c) ⟨_, rfl, _, eJ, by rw [List.length_map]; omega, fun b o e => ?_, ?_⟩
              · rw [upd_ne (ne_of_none e nJf)]
                exact sB _ _ e
              · rw [upd_same, List.map_append, List.filter_cons, if_pos (decide_eq_true c)]
                rfl
            · exact LK.ifF (decide_eq_false c) ⟨sB, by rw [eJ, List.filter_cons, if_neg (by rw [decide_eq_true_eq]; exact c), List.filter_nil, List.append_nil]⟩
          obtain ⟨s28', eJf⟩ := hg
          rw [List.length_map, List.take_length] at eJf
          have cr28 := cr27.same s28'
          refine ⟨D, Jf, _, _, rfl, rfl, s28' _ _ (u2 _ _ eD26), eJf, ?_, fun D2 nD2 => ?_⟩
          · have := List.length_filter_le (fun z => decide (z ∈ cI (fallD ls fs n0))) c5
            simp only [List.length_map]
            omega
          have D2c : D2 ≠ c := cr_ne cr28 nD2
          have v1 := same_new (o := .lst (ds.map V.int ++ (c5.filter fun z => decide (z ∈ cI (fallD ls fs n0))).map V.int)) nD2
          have eD2 : upd H28 D2 (.lst (ds.map V.int ++ (c5.filter fun z => decide (z ∈ cI (fallD ls fs n0))).map V.int)) D2 = some (.lst ((ds ++ c5.filter fun z => decide (z ∈ cI (fallD ls fs n0))).map V.int)) := by rw [upd_same, List.map_append]
          have w29 := u2.trans (s28'.trans v1)
          have efr29 := v1 _ _ (s28' _ _ efr)
          generalize upd H28 D2 (.lst (ds.map V.int ++ (c5.filter fun z => decide (z ∈ cI (fallD ls fs n0))).map V.int)) = H29 at w29 eD2 efr29
          clear v1 s28' eJf nJf nD2
          have eF29 := w29 _ _ eF26
          -- up
          refine ⟨_, rfl, _, rfl, fr, rfl, ⟨_, SqL.of efr29⟩, fun Jg nJg => ?_⟩
          refine lc_list (K := K) (a := fr) (xs := c5.map V.int) (fun j H' => Same H29 H' ∧ H' Jg = some (.lst (((c5.take j).filter fun z => decide (z ∉ (cI (fallD ls fs n0)))).map V.int)))
            ⟨same_new nJg, upd_same⟩ (fun j H' hj hg => SqL.of (hg.1 _ _ efr29)) (fun j y H' hy hg => ⟨rfl, ?_⟩) (fun H30 hg => ?_)
          · obtain ⟨sB, eJ⟩ := hg
            rw [List.getElem?_map] at hy
            obtain ⟨z, hz, rfl⟩ := Option.map_eq_some_iff.mp hy
            refine ⟨_, rfl, _, rfl, F, _, rfl, .inl (SqL.of (sB _ _ eF29)), rfl, flat_ints _, _, rfl, ?_⟩
            show if (!inV (.int z) ((cI (fallD ls fs n0)).map V.int)) = true then _ else _
            rw [inV_int, List.take_add_one, hz, Option.toList_some, List.filter_append]
            have lz := List.length_filter_le (fun z => decide (z ∉ (cI (fallD ls fs n0)))) (c5.take j)
            rw [List.length_take] at lz
            have lx : c5.length ≤ 1000 := by omega
            by_cases c : z ∈ (cI (fallD ls fs n0))
            · exact LK.ifF (by rw [decide_eq_true c]; rfl) ⟨sB, by rw [eJ, List.filter_cons, if_neg (by rw [decide_eq_true_eq]; exact fun n => n c), List.filter_nil, List.append_nil]⟩
            · refine LK.ifT (by rw [decide_eq_false c]; rfl) ⟨_, rfl, _, eJ, by rw [List.length_map]; omega, fun b o e => ?_, ?_⟩
              · rw [upd_ne (ne_of_none e nJg)]
                exact sB _ _ e
              · rw [upd_same, List.map_append, List.filter_cons, if_pos (decide_eq_true c)]
                rfl
          obtain ⟨s30', eJg⟩ := hg
          rw [List.length_map, List.take_length] at eJg
          have cr30 := (cr26.same w29).same s30'
          refine ⟨U, Jg, _, _, rfl, rfl, s30' _ _ (w29 _ _ eU26), eJg, ?_, fun U2 nU2 => ?_⟩
          · have := List.length_filter_le (fun z => decide (z ∉ cI (fallD ls fs n0))) c5
            simp only [List.length_map]
            omega
          have U2c : U2 ≠ c := cr_ne cr30 nU2
          have v1 := same_new (o := .lst (us.map V.int ++ (c5.filter fun z => decide (z ∉ cI (fallD ls fs n0))).map V.int)) nU2
          have eU2 : upd H30 U2 (.lst (us.map V.int ++ (c5.filter fun z => decide (z ∉ cI (fallD ls fs n0))).map V.int)) U2 = some (.lst ((us ++ c5.filter fun z => decide (z ∉ cI (fallD ls fs n0))).map V.int)) := by rw [upd_same, List.map_append]
          have w31 := w29.trans (s30'.trans v1)
          have eD31 := v1 _ _ (s30' _ _ eD2)
          generalize upd H30 U2 (.lst (us.map V.int ++ (c5.filter fun z => decide (z ∉ cI (fallD ls fs n0))).map V.int)) = H31 at w31 eU2 eD31
          have okD2 : OkFs ls.length (ds ++ c5.filter fun z => decide (z ∈ cI (fallD ls fs n0))) := by
            refine ⟨List.nodup_append.mpr ⟨okd.1, (ok5.filt (f := fun z => decide (z ∈ cI (fallD ls fs n0)))).1, fun a ha b hb e => ?_⟩, fun z hz => (List.mem_append.mp hz).elim (okd.2 z) ((ok5.filt (f := fun z => decide (z ∈ cI (fallD ls fs n0)))).2 z)⟩
            subst e
            exact (op5 _ (List.mem_filter.mp hb).1).1 ha
          have okU2 : OkFs ls.length (us ++ c5.filter fun z => decide (z ∉ cI (fallD ls fs n0))) := by
            refine ⟨List.nodup_append.mpr ⟨oku.1, (ok5.filt (f := fun z => decide (z ∉ cI (fallD ls fs n0)))).1, fun a ha b hb e => ?_⟩, fun z hz => (List.mem_append.mp hz).elim (oku.2 z) ((ok5.filt (f := fun z => decide (z ∉ cI (fallD ls fs n0)))).2 z)⟩
            subst e
            exact (op5 _ (List.mem_filter.mp hb).1).2 ha
          have hu2 : ∀ z ∈ us ++ c5.filter (fun z => decide (z ∉ cI (fallD ls fs n0))), z ∉ cI (fallD ls fs n0) := fun z hz => (List.mem_append.mp hz).elim (hu z) fun h => of_decide_eq_true (List.mem_filter.mp h).2
          have hd2 : ∀ z ∈ ds ++ c5.filter (fun z => decide (z ∈ cI (fallD ls fs n0))), z ∈ cI (fallD ls fs n0) := fun z hz => (List.mem_append.mp hz).elim (hd z) fun h => of_decide_eq_true (List.mem_filter.mp h).2
          have fit2 := story_fit hms okU2 hu2 hd2
          refine ⟨U2, D2, _, _, .ref p, _, _, _, _, _, _, _, _, _, rfl, (cr26.same w31).mono (by omega), bb26.trans (Bt.of w31), U2c, D2c, w31 _ _ eF26, eU2, eD31, okU2, okD2, hu2, hd2, .inr ⟨p, a, b, d, SD, fallD ls fs ds, rfl, pcs.1, pcs.2, w31 _ _ ep26, w31 _ _ ea26, w31 _ _ eb26, fun k hk => sure_grow par fit fit2 (fun z hz => List.mem_append_left _ hz) (fun z hz => List.mem_append_left _ hz) ((SM k).mp hk), fall_grow fun z hz => List.mem_append_left _ hz, lS, lG⟩⟩
    · obtain ⟨U, D, us, ds, bv, o7, o8, o9, o10, o11, o12, o13, o14, o15, rfl, crn, bn, _⟩ := hI
      exact k _ bn
end
end B7
/-! law. -/
namespace B7
open PySem PySem.Spec PyProof.Rows L2 LK MXo MXi MXp MXr MXg MXq MXs
abbrev sLaw : Stmt := top 56
theorem scLaw : FnScope ["script", "at", "creel", "here"] ["script"] (defScope sLaw) := ⟨rfl, rfl, rfl, by decide +kernel, rfl, by decide +kernel, by decide +kernel⟩
section
variable {P : Program} {w : World} {K : PySem.W.Frag} {mg : Str → Option Value} {base : Heap} {CC : Addr}
theorem ok_Law {f : Addr} {fd : FuncData} (F : Fun K "law" "law" sLaw f fd) (B : Bl mg)
    {f__law_creel : Addr} {d__law_creel : FuncData} (G__law_creel : FnOk P w K mg base CX0 1 f__law_creel d__law_creel ["script", "at"] (spCreel K)) (g__law_creel : mg "_law_creel" = some (.ref f__law_creel)) (k__law_creel : PySem.W.keepIn K (.ref f__law_creel) = true) (b__law_creel : Binds K d__law_creel ["script", "at"] [])
    {f__law_scene : Addr} {d__law_scene : FuncData} (G__law_scene : FnOk P w K mg base CX0 4 f__law_scene d__law_scene ["creel", "most"] (spScene K)) (g__law_scene : mg "_law_scene" = some (.ref f__law_scene)) (k__law_scene : PySem.W.keepIn K (.ref f__law_scene) = true) (b__law_scene : Binds K d__law_scene ["creel", "most"] [])
    {f__law_made : Addr} {d__law_made : FuncData} (G__law_made : FnOk P w K mg base CX0 10 f__law_made d__law_made ["creel", "here"] (spMkd K CC)) (g__law_made : mg "_law_made" = some (.ref f__law_made)) (k__law_made : PySem.W.keepIn K (.ref f__law_made) = true) (b__law_made : Binds K d__law_made ["creel", "here"] [])
    {f__law_story_right : Addr} {d__law_story_right : FuncData} (G__law_story_right : FnOk P w K mg base CX0 11 f__law_story_right d__law_story_right ["creel", "web", "here"] (spStr K CC)) (g__law_story_right : mg "_law_story_right" = some (.ref f__law_story_right)) (k__law_story_right : PySem.W.keepIn K (.ref f__law_story_right) = true) (b__law_story_right : Binds K d__law_story_right ["creel", "web", "here"] []) : FnOk P w K mg base CX0 12 f fd ["script"] (spLaw K) := by
  refine F.ok scLaw (fun vs H Q E h => ?_) (fun cdv A outer s H vs Q E hr h => ?_)
  · obtain ⟨a, ns, rfl, _⟩ := h
    rfl
  · obtain ⟨a, ns, rfl, hs, hn, k⟩ := h
    refine ⟨_, pss_cons (ps_for PassesOwn.never rfl (pi_range1 (by rfl) (B "range" (by decide)) (pa_cons (pe_callB (call_max2 rfl) (by rfl) (B "max" (by decide)) (by decide +kernel) (pa_cons pe_int (pa_cons (pe_callB (call_min2 rfl) (by rfl) (B "min" (by decide)) (by decide +kernel) (pa_cons pe_int (pa_cons (pe_callB call_len_seq (by rfl) (B "len" (by decide)) (by decide +kernel) (pa_cons (pv 0) pa_nil)) pa_nil))) pa_nil))) pa_nil)) (pg_name (i := 1) scLaw.nd rfl (Or.inl rfl)) (pss_cons (ps_set (i := 2) scLaw.nd rfl (Or.inl rfl) (pe_call (E := E0) G__law_creel (hr.mono (by decide)) rfl g__law_creel k__law_creel b__law_creel .nil pass0 (pa_cons (pv 0) (pa_cons (pv 1) pa_nil))))
      (pss_cons (ps_set (i := 3) scLaw.nd rfl (Or.inl rfl) (pe_call (E := E0) G__law_scene (hr.mono (by decide)) rfl g__law_scene k__law_scene b__law_scene .nil pass0 (pa_cons (pv 2) (pa_cons pe_int pa_nil))))
      (pss_one (ps_if (pt_not (pt_val (pe_call (E := E0) G__law_story_right (hr.mono (by decide)) rfl g__law_story_right k__law_story_right b__law_story_right .nil pass0 (pa_cons (pv 2) (pa_cons (pe_call (E := E0) G__law_made (hr.mono (by decide)) rfl g__law_made k__law_made b__law_made .nil pass0 (pa_cons (pv 2) (pa_cons (pv 3) pa_nil))) (pa_cons (pv 3) pa_nil)))))) (pss_one (ps_ret pe_bl)) pss_nil)))))
      (pss_one (ps_ret pe_bl)), ?_⟩
    have ty2 : sizeLine = 16777216 := sizeLine_eq
    refine ⟨_, rfl, a, _, rfl, .inl hs, ?_⟩
    rw [List.length_map]
    refine ⟨_, _, rfl, ?_⟩
    refine ⟨_, _, rfl, ?_⟩
    refine ⟨_, rfl, ?_, ?_, ?_⟩
    · (repeat' split) <;> omega
    · (repeat' split) <;> omega
    refine for_range (lo := 0) (n := _) (fun i σ H' => ∃ (y1 y2 y3 : Option V), σ = [some (.ref a), y1, y2, y3] ∧ Same H H')
      ⟨_, _, _, rfl, Same.refl H⟩ (fun i σ H1 hi hI => ?_) (fun σ H1 hI => ?_)
    · obtain ⟨y1, y2, y3, rfl, s1⟩ := hI
      have i4 : i ≤ 1000 := by
        (repeat' split at hi) <;> omega
      dsimp only [gName, List.set, tSeq]
      refine ⟨_, rfl, _, rfl, a, ns, i, by simp, s1.seq hs, i4, fun c H2 nc c2 s2 => ?_⟩
      refine ⟨_, rfl, c, 60, 0, rfl, by decide, c2, by omega, fun t L G H3 ys ls xs fs sc c3 b3 => ?_⟩
      have ln : ls.length ≤ 60 := sc.ln
      have rt : Right ls := ⟨ys, sc.ok, sc.yn⟩
      have Lc : L ≠ c := cr_ne c2 sc.nL
      have Gc : G ≠ c := cr_ne c2 sc.nG
      have out3 : ∀ {H'}, Bt c H3 H' → Same H H' := fun b q o e => by
        have e2 := s2 _ _ (s1 _ _ e)
        have bc : q ≠ c := ne_of_none (s1 _ _ e) nc
        exact b _ _ bc (b3 _ _ bc e2)
      have here : ∀ {H'}, Bt c H3 H' → H' t = some (.tup [.ref L, .ref G]) ∧ H' L = some (.lst xs) ∧ DpAll K H' xs (ls.map lpD) ∧ H' G = some (.lst (fs.map V.int)) := fun b => ⟨Tk.bt c3 b _ _ (fun _ z => by cases z) sc.et, b _ _ Lc sc.eL, lps_tk (Tk.bt c3 b) sc.dL, b _ _ Gc sc.eG⟩
      refine ⟨_, rfl, _, rfl, _, rfl, c, t, L, G, xs, ls, fs, _, rfl, sc.et, sc.eL, sc.dL, sc.eG, Lc, Gc, rt, by omega, sc.fs, c3, by omega, fun x H4 ms nx isn pm c4 b4 => ?_⟩
      obtain ⟨e1, e2, e3, e4⟩ := here b4
      obtain ⟨dx, L4, G4, xs4, nL4, nG4, ex4, eL4, dL4, eG4⟩ := isn
      have L4c : L4 ≠ c := cr_ne c3 nL4
      have G4c : G4 ≠ c := cr_ne c3 nG4
      have lms : ms.length ≤ 100 := by
        rw [pm.length_eq]
        have := sc.fs.len
        omega
      have isc : ∀ H', Bt c H4 H' → IsC K CC H' x ls ms := fun H' b => ⟨dx, L4, G4, xs4, Tk.bt c4 b _ _ (fun _ z => by cases z) ex4, b _ _ L4c eL4, lps_tk (Tk.bt c4 b) dL4, b _ _ G4c eG4⟩
      refine ⟨_, rfl, c, x, t, L, G, xs, ls, fs, ms, _, rfl, c4, by omega, isc, fun y => pm.mem_iff, rt.par, ln, rt.thin (by omega), lms, e1, e2, e3, e4, Lc, Gc, fun H5 b5 => ⟨_, rfl, LK.ifF rfl ⟨_, _, _, rfl, out3 (b4.trans b5)⟩⟩⟩
    · obtain ⟨y1, y2, y3, rfl, s1⟩ := hI
      exact k _
end
end B7
namespace B7
open PySem PySem.Spec PyProof.Rows L2 L2H LK MXb MXd MXe MXf MXg MXi MXp MXq MXr MXs
/-- the facts of an error class that are reckoned at once -/
def chkE (K : PySem.W.Frag) (fI C : Addr) : Bool :=
  decide (PySem.W.findIn K (.ref C) "__setattr__" = some (some (.builtin "object.__setattr__"))) && (decide (PySem.W.subIn K (.ref C) (.type "BaseException") = some true) && (decide (PySem.W.typeIn K (.ref C) = some (.type "type")) &&
  (PySem.W.keepIn K (.ref C) && (decide (PySem.W.findIn K (.ref C) "__init__" = some (some (.ref fI))) && (decide (PySem.W.typeIn K (.ref fI) = some (.type "function")) && (decide (PySem.W.findIn K (.ref C) "value" = some none) &&
  (decide (PySem.W.findIn K (.ref C) "__getattribute__" = some (some (.builtin "BaseException.__getattribute__"))) && (decide (PySem.W.findIn K (.ref C) "__getattr__" = some none) && (PySem.W.hasDictIn K C &&
  (decide (PySem.W.findIn K (.ref C) "__class__" = some (some (.builtin "object.__class__"))) && (decide (PySem.W.specialIn K (.builtin "object.__class__") "__get__" = some (some (.builtin "getset_descriptor.__get__"))) &&
  (decide (PySem.W.takesIn K (.builtin "object.__class__") = some true) && decide (PySem.W.mroIn K C (.type "object") = some true)))))))))))))
/-- the class object of an error -/
def ClsE (K : PySem.W.Frag) (C : Addr) : Prop := ∃ nm q N bs bm sn sub ab col dd k0 k1 k2 k3 k5, K.lookup C = some (excClassObj nm q C N bs bm true sn sub ab col dd k0 k1 k2 k3 k5 "ValueError.__new__") ∧ PySem.HandSPX.refsVE bm = true
theorem clse_mk {K : PySem.W.Frag} {C : Addr} {nm q : Str} {N : Addr} {bs bm : List Value} {sn : List Str} {sub : List Value} {ab : Bool} {col : Option Bool} {dd : Option Addr} {k0 k1 k2 k3 k5 : Option Value}
    (e : K.lookup C = some (excClassObj nm q C N bs bm true sn sub ab col dd k0 k1 k2 k3 k5 "ValueError.__new__")) (r : PySem.HandSPX.refsVE bm = true) : ClsE K C := ⟨_, _, _, _, _, _, _, _, _, _, _, _, _, _, _, e, r⟩
theorem xce_of {K : PySem.W.Frag} {mg : Str → Option Value} {fI C : Addr} {nm : Str} (g : mg nm = some (.ref C)) (x : ClsE K C) (c : chkE K fI C = true) : XC K mg fI C nm "value" := by
  unfold chkE at c
  simp only [Bool.and_eq_true, decide_eq_true_eq] at c
  obtain ⟨h1, h2, h3, h4, h5, h6, h7, h8, h9, h10, h11, h12, h13, h14⟩ := c
  exact ⟨g, ⟨x, h1, h2, h3, h4⟩, h5, h6, h7, ⟨h8, h9, h2, h10⟩, ⟨h8, h9, h2, h10, h11, h12, h13, h14⟩⟩
/-- the facts of the class -/
def chkC (K : PySem.W.Frag) (C : Addr) : Bool :=
  PySem.W.plainGet K C Str.empty && (PySem.W.hasDictIn K C && (PySem.W.plainOver K C && (decide (PySem.W.findIn K (.ref C) "__setattr__" = some (some (.builtin "object.__setattr__"))) &&
  (decide (PySem.W.findIn K (.ref C) "_loops" = some none) && (decide (PySem.W.findIn K (.ref C) "_fast" = some none) && (decide (PySem.W.findIn K (.ref C) "__class__" = some (some (.builtin "object.__class__"))) &&
  (decide (PySem.W.specialIn K (.builtin "object.__class__") "__get__" = some (some (.builtin "getset_descriptor.__get__"))) && (decide (PySem.W.takesIn K (.builtin "object.__class__") = some true) && (decide (PySem.W.mroIn K C (.type "object") = some true) &&
  (decide (PySem.W.kitOne K (.ref C) (.ref C) = some true) && decide (PySem.W.kitOne K (.ref C) (.type "tuple") = some false)))))))))))
theorem chkC_of {K : PySem.W.Frag} {C : Addr} (h : chkC K C = true) : Cls K C ∧ NoAttr K C "_loops" ∧ NoAttr K C "_fast" ∧ InsTy K C := by
  unfold chkC at h
  simp only [Bool.and_eq_true, decide_eq_true_eq] at h
  obtain ⟨h1, h2, h3, h4, h5, h6, h7, h8, h9, h10, h11, h12⟩ := h
  have c : Cls K C := ⟨h1, h2, h3, h4⟩
  exact ⟨c, h5, h6, ⟨fun e => .base (.ins e c h7 h8 h9 h10), h11, h12⟩⟩
/-- a property's facts -/
def chkP (K : PySem.W.Frag) (p : Addr) : Bool := decide (PySem.W.specialIn K (.ref p) "__get__" = some (some (.builtin "property.__get__"))) && decide (PySem.W.takesIn K (.ref p) = some true)
theorem prp_of {K : PySem.W.Frag} {C p g : Addr} {f : Str} {rest : List Value} (a : PySem.W.findIn K (.ref C) f = some (some (.ref p))) (r : PySem.W.recIn K p "property" = some (.ref g :: rest)) (h : chkP K p = true) : PropOf K C f p g := by
  unfold chkP at h
  simp only [Bool.and_eq_true, decide_eq_true_eq] at h
  exact ⟨a, h.1, h.2, _, r⟩
def chkN (K : PySem.W.Frag) : Bool := blts.all fun n => decide (PySem.W.nsIn K mainGlobals n = some none)


theorem all_mk {P : Program} {w : World} {K : PySem.W.Frag} {h : Heap} {mg : Str → Option Value} {fa CR CF CL CU CC p_gl p_gf f_ply f_cre f_int f_num f_thr f_wro f_par f_loo f_ckl f_ckf f_kid f_yar f_any f_mat f_clt f_std f_run f_kin f_mee f_nea f_fts f_lst f_sur f_row f_wrk f_dro f_dwo f_scn f_som f_upr f_fal f_clp f_rai f_shw f_beh f_ahd f_mkd f_due f_unf f_ctr f_sto f_law f_ini f_clo f_len f_wf f_wo f_add f_gl f_gf : Addr} {tLT : Tok} {r_gl r_gf : List Value} (X : K.In h) (G : h.Ns mainGlobals mg) (hfa : mg "law" = some (.ref fa))
    {od_ply an_ply : Option Addr} {sl_ply : Array (Option Value)} {oc_ply kV_ply dc_ply pm_ply cd_ply ct_ply : Value}
    {od_cre an_cre : Option Addr} {sl_cre : Array (Option Value)} {oc_cre kV_cre dc_cre pm_cre cd_cre ct_cre : Value}
    {od_int an_int : Option Addr} {sl_int : Array (Option Value)} {oc_int kV_int dc_int pm_int cd_int ct_int : Value}
    {od_num an_num : Option Addr} {sl_num : Array (Option Value)} {oc_num kV_num dc_num pm_num cd_num ct_num : Value}
    {od_thr an_thr : Option Addr} {sl_thr : Array (Option Value)} {oc_thr kV_thr dc_thr pm_thr cd_thr ct_thr : Value}
    {od_wro an_wro : Option Addr} {sl_wro : Array (Option Value)} {oc_wro kV_wro dc_wro pm_wro cd_wro ct_wro : Value}
    {od_par an_par : Option Addr} {sl_par : Array (Option Value)} {oc_par kV_par dc_par pm_par cd_par ct_par : Value}
    {od_loo an_loo : Option Addr} {sl_loo : Array (Option Value)} {oc_loo kV_loo dc_loo pm_loo cd_loo ct_loo : Value}
    {od_ckl an_ckl : Option Addr} {sl_ckl : Array (Option Value)} {oc_ckl kV_ckl dc_ckl pm_ckl cd_ckl ct_ckl : Value}
    {od_ckf an_ckf : Option Addr} {sl_ckf : Array (Option Value)} {oc_ckf kV_ckf dc_ckf pm_ckf cd_ckf ct_ckf : Value}
    {od_kid an_kid : Option Addr} {sl_kid : Array (Option Value)} {oc_kid kV_kid dc_kid pm_kid cd_kid ct_kid : Value}
    {od_yar an_yar : Option Addr} {sl_yar : Array (Option Value)} {oc_yar kV_yar dc_yar pm_yar cd_yar ct_yar : Value}
    {od_any an_any : Option Addr} {sl_any : Array (Option Value)} {oc_any kV_any dc_any pm_any cd_any ct_any : Value}
    {od_mat an_mat : Option Addr} {sl_mat : Array (Option Value)} {oc_mat kV_mat dc_mat pm_mat cd_mat ct_mat : Value}
    {od_clt an_clt : Option Addr} {sl_clt : Array (Option Value)} {oc_clt kV_clt dc_clt pm_clt cd_clt ct_clt : Value}
    {od_std an_std : Option Addr} {sl_std : Array (Option Value)} {oc_std kV_std dc_std pm_std cd_std ct_std : Value}
    {od_run an_run : Option Addr} {sl_run : Array (Option Value)} {oc_run kV_run dc_run pm_run cd_run ct_run : Value}
    {od_kin an_kin : Option Addr} {sl_kin : Array (Option Value)} {oc_kin kV_kin dc_kin pm_kin cd_kin ct_kin : Value}
    {od_mee an_mee : Option Addr} {sl_mee : Array (Option Value)} {oc_mee kV_mee dc_mee pm_mee cd_mee ct_mee : Value}
    {od_nea an_nea : Option Addr} {sl_nea : Array (Option Value)} {oc_nea kV_nea dc_nea pm_nea cd_nea ct_nea : Value}
    {od_fts an_fts : Option Addr} {sl_fts : Array (Option Value)} {oc_fts kV_fts dc_fts pm_fts cd_fts ct_fts : Value}
    {od_lst an_lst : Option Addr} {sl_lst : Array (Option Value)} {oc_lst kV_lst dc_lst pm_lst cd_lst ct_lst : Value}
    {od_sur an_sur : Option Addr} {sl_sur : Array (Option Value)} {oc_sur kV_sur dc_sur pm_sur cd_sur ct_sur : Value}
    {od_row an_row : Option Addr} {sl_row : Array (Option Value)} {oc_row kV_row dc_row pm_row cd_row ct_row : Value}
    {od_wrk an_wrk : Option Addr} {sl_wrk : Array (Option Value)} {oc_wrk kV_wrk dc_wrk pm_wrk cd_wrk ct_wrk : Value}
    {od_dro an_dro : Option Addr} {sl_dro : Array (Option Value)} {oc_dro kV_dro dc_dro pm_dro cd_dro ct_dro : Value}
    {od_dwo an_dwo : Option Addr} {sl_dwo : Array (Option Value)} {oc_dwo kV_dwo dc_dwo pm_dwo cd_dwo ct_dwo : Value}
    {od_scn an_scn : Option Addr} {sl_scn : Array (Option Value)} {oc_scn kV_scn dc_scn pm_scn cd_scn ct_scn : Value}
    {od_som an_som : Option Addr} {sl_som : Array (Option Value)} {oc_som kV_som dc_som pm_som cd_som ct_som : Value}
    {od_upr an_upr : Option Addr} {sl_upr : Array (Option Value)} {oc_upr kV_upr dc_upr pm_upr cd_upr ct_upr : Value}
    {od_fal an_fal : Option Addr} {sl_fal : Array (Option Value)} {oc_fal kV_fal dc_fal pm_fal cd_fal ct_fal : Value}
    {od_clp an_clp : Option Addr} {sl_clp : Array (Option Value)} {oc_clp kV_clp dc_clp pm_clp cd_clp ct_clp : Value}
    {od_rai an_rai : Option Addr} {sl_rai : Array (Option Value)} {oc_rai kV_rai dc_rai pm_rai cd_rai ct_rai : Value}
    {od_shw an_shw : Option Addr} {sl_shw : Array (Option Value)} {oc_shw kV_shw dc_shw pm_shw cd_shw ct_shw : Value}
    {od_beh an_beh : Option Addr} {sl_beh : Array (Option Value)} {oc_beh kV_beh dc_beh pm_beh cd_beh ct_beh : Value}
    {od_ahd an_ahd : Option Addr} {sl_ahd : Array (Option Value)} {oc_ahd kV_ahd dc_ahd pm_ahd cd_ahd ct_ahd : Value}
    {od_mkd an_mkd : Option Addr} {sl_mkd : Array (Option Value)} {oc_mkd kV_mkd dc_mkd pm_mkd cd_mkd ct_mkd : Value}
    {od_due an_due : Option Addr} {sl_due : Array (Option Value)} {oc_due kV_due dc_due pm_due cd_due ct_due : Value}
    {od_unf an_unf : Option Addr} {sl_unf : Array (Option Value)} {oc_unf kV_unf dc_unf pm_unf cd_unf ct_unf : Value}
    {od_ctr an_ctr : Option Addr} {sl_ctr : Array (Option Value)} {oc_ctr kV_ctr dc_ctr pm_ctr cd_ctr ct_ctr : Value}
    {od_sto an_sto : Option Addr} {sl_sto : Array (Option Value)} {oc_sto kV_sto dc_sto pm_sto cd_sto ct_sto : Value}
    {od_law an_law : Option Addr} {sl_law : Array (Option Value)} {oc_law kV_law dc_law pm_law cd_law ct_law : Value}
    {od_ini an_ini : Option Addr} {sl_ini : Array (Option Value)} {oc_ini kV_ini dc_ini pm_ini cd_ini ct_ini : Value}
    {od_clo an_clo : Option Addr} {sl_clo : Array (Option Value)} {oc_clo kV_clo dc_clo pm_clo cd_clo ct_clo : Value}
    {od_len an_len : Option Addr} {sl_len : Array (Option Value)} {oc_len kV_len dc_len pm_len cd_len ct_len : Value}
    {od_wf an_wf : Option Addr} {sl_wf : Array (Option Value)} {oc_wf kV_wf dc_wf pm_wf cd_wf ct_wf : Value}
    {od_wo an_wo : Option Addr} {sl_wo : Array (Option Value)} {oc_wo kV_wo dc_wo pm_wo cd_wo ct_wo : Value}
    {od_add an_add : Option Addr} {sl_add : Array (Option Value)} {oc_add kV_add dc_add pm_add cd_add ct_add : Value}
    {od_gl an_gl : Option Addr} {sl_gl : Array (Option Value)} {oc_gl kV_gl dc_gl pm_gl cd_gl ct_gl : Value}
    {od_gf an_gf : Option Addr} {sl_gf : Array (Option Value)} {oc_gf kV_gf dc_gf pm_gf cd_gf ct_gf : Value}
    (aR : PySem.W.nsIn K mainGlobals "RunError" = some (some (.ref CR)))
    (aF : PySem.W.nsIn K mainGlobals "InvalidFast" = some (some (.ref CF)))
    (xF : ClsE K CF)
    (aL : PySem.W.nsIn K mainGlobals "InvalidLoops" = some (some (.ref CL)))
    (xL : ClsE K CL)
    (aU : PySem.W.nsIn K mainGlobals "Unfit" = some (some (.ref CU)))
    (xU : ClsE K CU)
    (aC : PySem.W.nsIn K mainGlobals "Cloth" = some (some (.ref CC)))
    (mC : PySem.W.makesIn K CC = true)
    (kC : PySem.W.keepIn K (.ref CC) = true)
    (aT : PySem.W.nsIn K mainGlobals "LONGEST_THREAD" = some (some (.int 8 tLT)))
    (n_ply : PySem.W.nsIn K mainGlobals "_law_ply" = some (some (.ref f_ply)))
    (n_cre : PySem.W.nsIn K mainGlobals "_law_creel" = some (some (.ref f_cre)))
    (n_int : PySem.W.nsIn K mainGlobals "is_integer" = some (some (.ref f_int)))
    (n_num : PySem.W.nsIn K mainGlobals "is_number" = some (some (.ref f_num)))
    (n_thr : PySem.W.nsIn K mainGlobals "is_thread" = some (some (.ref f_thr)))
    (n_wro : PySem.W.nsIn K mainGlobals "wrong_number" = some (some (.ref f_wro)))
    (n_par : PySem.W.nsIn K mainGlobals "is_parents" = some (some (.ref f_par)))
    (n_loo : PySem.W.nsIn K mainGlobals "is_loop" = some (some (.ref f_loo)))
    (n_ckl : PySem.W.nsIn K mainGlobals "check_loops" = some (some (.ref f_ckl)))
    (n_ckf : PySem.W.nsIn K mainGlobals "check_fast" = some (some (.ref f_ckf)))
    (n_kid : PySem.W.nsIn K mainGlobals "_law_kids" = some (some (.ref f_kid)))
    (n_yar : PySem.W.nsIn K mainGlobals "_law_yarns" = some (some (.ref f_yar)))
    (n_any : PySem.W.nsIn K mainGlobals "_law_any_cloth" = some (some (.ref f_any)))
    (n_mat : PySem.W.nsIn K mainGlobals "_law_matched" = some (some (.ref f_mat)))
    (n_clt : PySem.W.nsIn K mainGlobals "check_lot" = some (some (.ref f_clt)))
    (n_std : PySem.W.nsIn K mainGlobals "standing" = some (some (.ref f_std)))
    (n_run : PySem.W.nsIn K mainGlobals "run" = some (some (.ref f_run)))
    (n_kin : PySem.W.nsIn K mainGlobals "children_of" = some (some (.ref f_kin)))
    (n_mee : PySem.W.nsIn K mainGlobals "meeting" = some (some (.ref f_mee)))
    (n_nea : PySem.W.nsIn K mainGlobals "nearest" = some (some (.ref f_nea)))
    (n_fts : PySem.W.nsIn K mainGlobals "fits" = some (some (.ref f_fts)))
    (n_lst : PySem.W.nsIn K mainGlobals "least_run" = some (some (.ref f_lst)))
    (n_sur : PySem.W.nsIn K mainGlobals "surely" = some (some (.ref f_sur)))
    (n_row : PySem.W.nsIn K mainGlobals "_law_row_done" = some (some (.ref f_row)))
    (n_wrk : PySem.W.nsIn K mainGlobals "_law_work_done" = some (some (.ref f_wrk)))
    (n_dro : PySem.W.nsIn K mainGlobals "_law_drawn_row" = some (some (.ref f_dro)))
    (n_dwo : PySem.W.nsIn K mainGlobals "_law_drawn_work" = some (some (.ref f_dwo)))
    (n_scn : PySem.W.nsIn K mainGlobals "_law_scene" = some (some (.ref f_scn)))
    (n_som : PySem.W.nsIn K mainGlobals "_law_some_of" = some (some (.ref f_som)))
    (n_upr : PySem.W.nsIn K mainGlobals "_law_upright" = some (some (.ref f_upr)))
    (n_fal : PySem.W.nsIn K mainGlobals "_law_fallen" = some (some (.ref f_fal)))
    (n_clp : PySem.W.nsIn K mainGlobals "check_loop" = some (some (.ref f_clp)))
    (n_rai : PySem.W.nsIn K mainGlobals "raised" = some (some (.ref f_rai)))
    (n_shw : PySem.W.nsIn K mainGlobals "shown" = some (some (.ref f_shw)))
    (n_beh : PySem.W.nsIn K mainGlobals "_law_behind" = some (some (.ref f_beh)))
    (n_ahd : PySem.W.nsIn K mainGlobals "_law_ahead" = some (some (.ref f_ahd)))
    (n_mkd : PySem.W.nsIn K mainGlobals "_law_made" = some (some (.ref f_mkd)))
    (n_due : PySem.W.nsIn K mainGlobals "_law_sure_due" = some (some (.ref f_due)))
    (n_unf : PySem.W.nsIn K mainGlobals "_law_unfit" = some (some (.ref f_unf)))
    (n_ctr : PySem.W.nsIn K mainGlobals "_law_contrary_right" = some (some (.ref f_ctr)))
    (n_sto : PySem.W.nsIn K mainGlobals "_law_story_right" = some (some (.ref f_sto)))
    (n_law : PySem.W.nsIn K mainGlobals "law" = some (some (.ref f_law)))
    (n_ini : PySem.W.findIn K (.ref CR) "__init__" = some (some (.ref f_ini)))
    (i_ini : PySem.W.isFn K (.ref f_ini) = true)
    (n_clo : PySem.W.findIn K (.ref CC) "__init__" = some (some (.ref f_clo)))
    (i_clo : PySem.W.isFn K (.ref f_clo) = true)
    (n_len : PySem.W.findIn K (.ref CC) "__len__" = some (some (.ref f_len)))
    (i_len : PySem.W.isFn K (.ref f_len) = true)
    (n_wf : PySem.W.findIn K (.ref CC) "with_fast" = some (some (.ref f_wf)))
    (i_wf : PySem.W.isFn K (.ref f_wf) = true)
    (n_wo : PySem.W.findIn K (.ref CC) "without_fast" = some (some (.ref f_wo)))
    (i_wo : PySem.W.isFn K (.ref f_wo) = true)
    (n_add : PySem.W.findIn K (.ref CC) "__add__" = some (some (.ref f_add)))
    (i_add : PySem.W.isFn K (.ref f_add) = true)
    (n_gl : PySem.W.findIn K (.ref CC) "loops" = some (some (.ref p_gl)))
    (q_gl : PySem.W.recIn K p_gl "property" = some (.ref f_gl :: r_gl))
    (n_gf : PySem.W.findIn K (.ref CC) "fast" = some (some (.ref p_gf)))
    (q_gf : PySem.W.recIn K p_gf "property" = some (.ref f_gf :: r_gf))
    (l_ply : K.lookup f_ply = some ⟨oc_ply, od_ply, .func (PySem.W.fnOf "_law_ply" "_law_ply" (defArgs sPly) (defBody sPly) (defScope sPly) .none kV_ply dc_ply pm_ply an_ply cd_ply ct_ply), sl_ply⟩)
    (c_ply : PySem.W.codeIn K cd_ply "_law_ply" = true)
    (k_ply : PySem.W.keepIn K (.ref f_ply) = true)
    (l_cre : K.lookup f_cre = some ⟨oc_cre, od_cre, .func (PySem.W.fnOf "_law_creel" "_law_creel" (defArgs sCreel) (defBody sCreel) (defScope sCreel) .none kV_cre dc_cre pm_cre an_cre cd_cre ct_cre), sl_cre⟩)
    (c_cre : PySem.W.codeIn K cd_cre "_law_creel" = true)
    (k_cre : PySem.W.keepIn K (.ref f_cre) = true)
    (l_int : K.lookup f_int = some ⟨oc_int, od_int, .func (PySem.W.fnOf "is_integer" "is_integer" (defArgs sIsInt) (defBody sIsInt) (defScope sIsInt) .none kV_int dc_int pm_int an_int cd_int ct_int), sl_int⟩)
    (c_int : PySem.W.codeIn K cd_int "is_integer" = true)
    (k_int : PySem.W.keepIn K (.ref f_int) = true)
    (l_num : K.lookup f_num = some ⟨oc_num, od_num, .func (PySem.W.fnOf "is_number" "is_number" (defArgs sIsNum) (defBody sIsNum) (defScope sIsNum) .none kV_num dc_num pm_num an_num cd_num ct_num), sl_num⟩)
    (c_num : PySem.W.codeIn K cd_num "is_number" = true)
    (k_num : PySem.W.keepIn K (.ref f_num) = true)
    (l_thr : K.lookup f_thr = some ⟨oc_thr, od_thr, .func (PySem.W.fnOf "is_thread" "is_thread" (defArgs sIsThr) (defBody sIsThr) (defScope sIsThr) .none kV_thr dc_thr pm_thr an_thr cd_thr ct_thr), sl_thr⟩)
    (c_thr : PySem.W.codeIn K cd_thr "is_thread" = true)
    (k_thr : PySem.W.keepIn K (.ref f_thr) = true)
    (l_wro : K.lookup f_wro = some ⟨oc_wro, od_wro, .func (PySem.W.fnOf "wrong_number" "wrong_number" (defArgs sWrong) (defBody sWrong) (defScope sWrong) .none kV_wro dc_wro pm_wro an_wro cd_wro ct_wro), sl_wro⟩)
    (c_wro : PySem.W.codeIn K cd_wro "wrong_number" = true)
    (k_wro : PySem.W.keepIn K (.ref f_wro) = true)
    (l_par : K.lookup f_par = some ⟨oc_par, od_par, .func (PySem.W.fnOf "is_parents" "is_parents" (defArgs sPar) (defBody sPar) (defScope sPar) .none kV_par dc_par pm_par an_par cd_par ct_par), sl_par⟩)
    (c_par : PySem.W.codeIn K cd_par "is_parents" = true)
    (k_par : PySem.W.keepIn K (.ref f_par) = true)
    (l_loo : K.lookup f_loo = some ⟨oc_loo, od_loo, .func (PySem.W.fnOf "is_loop" "is_loop" (defArgs sIsLoop) (defBody sIsLoop) (defScope sIsLoop) .none kV_loo dc_loo pm_loo an_loo cd_loo ct_loo), sl_loo⟩)
    (c_loo : PySem.W.codeIn K cd_loo "is_loop" = true)
    (k_loo : PySem.W.keepIn K (.ref f_loo) = true)
    (l_ckl : K.lookup f_ckl = some ⟨oc_ckl, od_ckl, .func (PySem.W.fnOf "check_loops" "check_loops" (defArgs sChkL) (defBody sChkL) (defScope sChkL) .none kV_ckl dc_ckl pm_ckl an_ckl cd_ckl ct_ckl), sl_ckl⟩)
    (c_ckl : PySem.W.codeIn K cd_ckl "check_loops" = true)
    (k_ckl : PySem.W.keepIn K (.ref f_ckl) = true)
    (l_ckf : K.lookup f_ckf = some ⟨oc_ckf, od_ckf, .func (PySem.W.fnOf "check_fast" "check_fast" (defArgs sChkF) (defBody sChkF) (defScope sChkF) .none kV_ckf dc_ckf pm_ckf an_ckf cd_ckf ct_ckf), sl_ckf⟩)
    (c_ckf : PySem.W.codeIn K cd_ckf "check_fast" = true)
    (k_ckf : PySem.W.keepIn K (.ref f_ckf) = true)
    (l_kid : K.lookup f_kid = some ⟨oc_kid, od_kid, .func (PySem.W.fnOf "_law_kids" "_law_kids" (defArgs sKids) (defBody sKids) (defScope sKids) .none kV_kid dc_kid pm_kid an_kid cd_kid ct_kid), sl_kid⟩)
    (c_kid : PySem.W.codeIn K cd_kid "_law_kids" = true)
    (k_kid : PySem.W.keepIn K (.ref f_kid) = true)
    (l_yar : K.lookup f_yar = some ⟨oc_yar, od_yar, .func (PySem.W.fnOf "_law_yarns" "_law_yarns" (defArgs sYarns) (defBody sYarns) (defScope sYarns) .none kV_yar dc_yar pm_yar an_yar cd_yar ct_yar), sl_yar⟩)
    (c_yar : PySem.W.codeIn K cd_yar "_law_yarns" = true)
    (k_yar : PySem.W.keepIn K (.ref f_yar) = true)
    (l_any : K.lookup f_any = some ⟨oc_any, od_any, .func (PySem.W.fnOf "_law_any_cloth" "_law_any_cloth" (defArgs sAny) (defBody sAny) (defScope sAny) .none kV_any dc_any pm_any an_any cd_any ct_any), sl_any⟩)
    (c_any : PySem.W.codeIn K cd_any "_law_any_cloth" = true)
    (k_any : PySem.W.keepIn K (.ref f_any) = true)
    (l_mat : K.lookup f_mat = some ⟨oc_mat, od_mat, .func (PySem.W.fnOf "_law_matched" "_law_matched" (defArgs sMat) (defBody sMat) (defScope sMat) .none kV_mat dc_mat pm_mat an_mat cd_mat ct_mat), sl_mat⟩)
    (c_mat : PySem.W.codeIn K cd_mat "_law_matched" = true)
    (k_mat : PySem.W.keepIn K (.ref f_mat) = true)
    (l_clt : K.lookup f_clt = some ⟨oc_clt, od_clt, .func (PySem.W.fnOf "check_lot" "check_lot" (defArgs sLot) (defBody sLot) (defScope sLot) .none kV_clt dc_clt pm_clt an_clt cd_clt ct_clt), sl_clt⟩)
    (c_clt : PySem.W.codeIn K cd_clt "check_lot" = true)
    (k_clt : PySem.W.keepIn K (.ref f_clt) = true)
    (l_std : K.lookup f_std = some ⟨oc_std, od_std, .func (PySem.W.fnOf "standing" "standing" (defArgs sStd) (defBody sStd) (defScope sStd) .none kV_std dc_std pm_std an_std cd_std ct_std), sl_std⟩)
    (c_std : PySem.W.codeIn K cd_std "standing" = true)
    (k_std : PySem.W.keepIn K (.ref f_std) = true)
    (l_run : K.lookup f_run = some ⟨oc_run, od_run, .func (PySem.W.fnOf "run" "run" (defArgs sRun) (defBody sRun) (defScope sRun) .none kV_run dc_run pm_run an_run cd_run ct_run), sl_run⟩)
    (c_run : PySem.W.codeIn K cd_run "run" = true)
    (k_run : PySem.W.keepIn K (.ref f_run) = true)
    (l_kin : K.lookup f_kin = some ⟨oc_kin, od_kin, .func (PySem.W.fnOf "children_of" "children_of" (defArgs sKin) (defBody sKin) (defScope sKin) .none kV_kin dc_kin pm_kin an_kin cd_kin ct_kin), sl_kin⟩)
    (c_kin : PySem.W.codeIn K cd_kin "children_of" = true)
    (k_kin : PySem.W.keepIn K (.ref f_kin) = true)
    (l_mee : K.lookup f_mee = some ⟨oc_mee, od_mee, .func (PySem.W.fnOf "meeting" "meeting" (defArgs sMeet) (defBody sMeet) (defScope sMeet) .none kV_mee dc_mee pm_mee an_mee cd_mee ct_mee), sl_mee⟩)
    (c_mee : PySem.W.codeIn K cd_mee "meeting" = true)
    (k_mee : PySem.W.keepIn K (.ref f_mee) = true)
    (l_nea : K.lookup f_nea = some ⟨oc_nea, od_nea, .func (PySem.W.fnOf "nearest" "nearest" (defArgs sNea) (defBody sNea) (defScope sNea) .none kV_nea dc_nea pm_nea an_nea cd_nea ct_nea), sl_nea⟩)
    (c_nea : PySem.W.codeIn K cd_nea "nearest" = true)
    (k_nea : PySem.W.keepIn K (.ref f_nea) = true)
    (l_fts : K.lookup f_fts = some ⟨oc_fts, od_fts, .func (PySem.W.fnOf "fits" "fits" (defArgs sFits) (defBody sFits) (defScope sFits) .none kV_fts dc_fts pm_fts an_fts cd_fts ct_fts), sl_fts⟩)
    (c_fts : PySem.W.codeIn K cd_fts "fits" = true)
    (k_fts : PySem.W.keepIn K (.ref f_fts) = true)
    (l_lst : K.lookup f_lst = some ⟨oc_lst, od_lst, .func (PySem.W.fnOf "least_run" "least_run" (defArgs sLst) (defBody sLst) (defScope sLst) .none kV_lst dc_lst pm_lst an_lst cd_lst ct_lst), sl_lst⟩)
    (c_lst : PySem.W.codeIn K cd_lst "least_run" = true)
    (k_lst : PySem.W.keepIn K (.ref f_lst) = true)
    (l_sur : K.lookup f_sur = some ⟨oc_sur, od_sur, .func (PySem.W.fnOf "surely" "surely" (defArgs sSur) (defBody sSur) (defScope sSur) .none kV_sur dc_sur pm_sur an_sur cd_sur ct_sur), sl_sur⟩)
    (c_sur : PySem.W.codeIn K cd_sur "surely" = true)
    (k_sur : PySem.W.keepIn K (.ref f_sur) = true)
    (l_row : K.lookup f_row = some ⟨oc_row, od_row, .func (PySem.W.fnOf "_law_row_done" "_law_row_done" (defArgs sRow) (defBody sRow) (defScope sRow) .none kV_row dc_row pm_row an_row cd_row ct_row), sl_row⟩)
    (c_row : PySem.W.codeIn K cd_row "_law_row_done" = true)
    (k_row : PySem.W.keepIn K (.ref f_row) = true)
    (l_wrk : K.lookup f_wrk = some ⟨oc_wrk, od_wrk, .func (PySem.W.fnOf "_law_work_done" "_law_work_done" (defArgs sWork) (defBody sWork) (defScope sWork) .none kV_wrk dc_wrk pm_wrk an_wrk cd_wrk ct_wrk), sl_wrk⟩)
    (c_wrk : PySem.W.codeIn K cd_wrk "_law_work_done" = true)
    (k_wrk : PySem.W.keepIn K (.ref f_wrk) = true)
    (l_dro : K.lookup f_dro = some ⟨oc_dro, od_dro, .func (PySem.W.fnOf "_law_drawn_row" "_law_drawn_row" (defArgs sDRow) (defBody sDRow) (defScope sDRow) .none kV_dro dc_dro pm_dro an_dro cd_dro ct_dro), sl_dro⟩)
    (c_dro : PySem.W.codeIn K cd_dro "_law_drawn_row" = true)
    (k_dro : PySem.W.keepIn K (.ref f_dro) = true)
    (l_dwo : K.lookup f_dwo = some ⟨oc_dwo, od_dwo, .func (PySem.W.fnOf "_law_drawn_work" "_law_drawn_work" (defArgs sDWork) (defBody sDWork) (defScope sDWork) .none kV_dwo dc_dwo pm_dwo an_dwo cd_dwo ct_dwo), sl_dwo⟩)
    (c_dwo : PySem.W.codeIn K cd_dwo "_law_drawn_work" = true)
    (k_dwo : PySem.W.keepIn K (.ref f_dwo) = true)
    (l_scn : K.lookup f_scn = some ⟨oc_scn, od_scn, .func (PySem.W.fnOf "_law_scene" "_law_scene" (defArgs sScene) (defBody sScene) (defScope sScene) .none kV_scn dc_scn pm_scn an_scn cd_scn ct_scn), sl_scn⟩)
    (c_scn : PySem.W.codeIn K cd_scn "_law_scene" = true)
    (k_scn : PySem.W.keepIn K (.ref f_scn) = true)
    (l_som : K.lookup f_som = some ⟨oc_som, od_som, .func (PySem.W.fnOf "_law_some_of" "_law_some_of" (defArgs sSome) (defBody sSome) (defScope sSome) .none kV_som dc_som pm_som an_som cd_som ct_som), sl_som⟩)
    (c_som : PySem.W.codeIn K cd_som "_law_some_of" = true)
    (k_som : PySem.W.keepIn K (.ref f_som) = true)
    (l_upr : K.lookup f_upr = some ⟨oc_upr, od_upr, .func (PySem.W.fnOf "_law_upright" "_law_upright" (defArgs sUpr) (defBody sUpr) (defScope sUpr) .none kV_upr dc_upr pm_upr an_upr cd_upr ct_upr), sl_upr⟩)
    (c_upr : PySem.W.codeIn K cd_upr "_law_upright" = true)
    (k_upr : PySem.W.keepIn K (.ref f_upr) = true)
    (l_fal : K.lookup f_fal = some ⟨oc_fal, od_fal, .func (PySem.W.fnOf "_law_fallen" "_law_fallen" (defArgs sFal) (defBody sFal) (defScope sFal) .none kV_fal dc_fal pm_fal an_fal cd_fal ct_fal), sl_fal⟩)
    (c_fal : PySem.W.codeIn K cd_fal "_law_fallen" = true)
    (k_fal : PySem.W.keepIn K (.ref f_fal) = true)
    (l_clp : K.lookup f_clp = some ⟨oc_clp, od_clp, .func (PySem.W.fnOf "check_loop" "check_loop" (defArgs sCklp) (defBody sCklp) (defScope sCklp) .none kV_clp dc_clp pm_clp an_clp cd_clp ct_clp), sl_clp⟩)
    (c_clp : PySem.W.codeIn K cd_clp "check_loop" = true)
    (k_clp : PySem.W.keepIn K (.ref f_clp) = true)
    (l_rai : K.lookup f_rai = some ⟨oc_rai, od_rai, .func (PySem.W.fnOf "raised" "raised" (defArgs sRai) (defBody sRai) (defScope sRai) .none kV_rai dc_rai pm_rai an_rai cd_rai ct_rai), sl_rai⟩)
    (c_rai : PySem.W.codeIn K cd_rai "raised" = true)
    (k_rai : PySem.W.keepIn K (.ref f_rai) = true)
    (l_shw : K.lookup f_shw = some ⟨oc_shw, od_shw, .func (PySem.W.fnOf "shown" "shown" (defArgs sShw) (defBody sShw) (defScope sShw) .none kV_shw dc_shw pm_shw an_shw cd_shw ct_shw), sl_shw⟩)
    (c_shw : PySem.W.codeIn K cd_shw "shown" = true)
    (k_shw : PySem.W.keepIn K (.ref f_shw) = true)
    (l_beh : K.lookup f_beh = some ⟨oc_beh, od_beh, .func (PySem.W.fnOf "_law_behind" "_law_behind" (defArgs sBeh) (defBody sBeh) (defScope sBeh) .none kV_beh dc_beh pm_beh an_beh cd_beh ct_beh), sl_beh⟩)
    (c_beh : PySem.W.codeIn K cd_beh "_law_behind" = true)
    (k_beh : PySem.W.keepIn K (.ref f_beh) = true)
    (l_ahd : K.lookup f_ahd = some ⟨oc_ahd, od_ahd, .func (PySem.W.fnOf "_law_ahead" "_law_ahead" (defArgs sAhd) (defBody sAhd) (defScope sAhd) .none kV_ahd dc_ahd pm_ahd an_ahd cd_ahd ct_ahd), sl_ahd⟩)
    (c_ahd : PySem.W.codeIn K cd_ahd "_law_ahead" = true)
    (k_ahd : PySem.W.keepIn K (.ref f_ahd) = true)
    (l_mkd : K.lookup f_mkd = some ⟨oc_mkd, od_mkd, .func (PySem.W.fnOf "_law_made" "_law_made" (defArgs sMkd) (defBody sMkd) (defScope sMkd) .none kV_mkd dc_mkd pm_mkd an_mkd cd_mkd ct_mkd), sl_mkd⟩)
    (c_mkd : PySem.W.codeIn K cd_mkd "_law_made" = true)
    (k_mkd : PySem.W.keepIn K (.ref f_mkd) = true)
    (l_due : K.lookup f_due = some ⟨oc_due, od_due, .func (PySem.W.fnOf "_law_sure_due" "_law_sure_due" (defArgs sDus) (defBody sDus) (defScope sDus) .none kV_due dc_due pm_due an_due cd_due ct_due), sl_due⟩)
    (c_due : PySem.W.codeIn K cd_due "_law_sure_due" = true)
    (k_due : PySem.W.keepIn K (.ref f_due) = true)
    (l_unf : K.lookup f_unf = some ⟨oc_unf, od_unf, .func (PySem.W.fnOf "_law_unfit" "_law_unfit" (defArgs sUnf) (defBody sUnf) (defScope sUnf) .none kV_unf dc_unf pm_unf an_unf cd_unf ct_unf), sl_unf⟩)
    (c_unf : PySem.W.codeIn K cd_unf "_law_unfit" = true)
    (k_unf : PySem.W.keepIn K (.ref f_unf) = true)
    (l_ctr : K.lookup f_ctr = some ⟨oc_ctr, od_ctr, .func (PySem.W.fnOf "_law_contrary_right" "_law_contrary_right" (defArgs sCtr) (defBody sCtr) (defScope sCtr) .none kV_ctr dc_ctr pm_ctr an_ctr cd_ctr ct_ctr), sl_ctr⟩)
    (c_ctr : PySem.W.codeIn K cd_ctr "_law_contrary_right" = true)
    (k_ctr : PySem.W.keepIn K (.ref f_ctr) = true)
    (l_sto : K.lookup f_sto = some ⟨oc_sto, od_sto, .func (PySem.W.fnOf "_law_story_right" "_law_story_right" (defArgs sStr) (defBody sStr) (defScope sStr) .none kV_sto dc_sto pm_sto an_sto cd_sto ct_sto), sl_sto⟩)
    (c_sto : PySem.W.codeIn K cd_sto "_law_story_right" = true)
    (k_sto : PySem.W.keepIn K (.ref f_sto) = true)
    (l_law : K.lookup f_law = some ⟨oc_law, od_law, .func (PySem.W.fnOf "law" "law" (defArgs sLaw) (defBody sLaw) (defScope sLaw) .none kV_law dc_law pm_law an_law cd_law ct_law), sl_law⟩)
    (c_law : PySem.W.codeIn K cd_law "law" = true)
    (k_law : PySem.W.keepIn K (.ref f_law) = true)
    (l_ini : K.lookup f_ini = some ⟨oc_ini, od_ini, .func (PySem.W.fnOf "__init__" "RunError.__init__" (defArgs sInit) (defBody sInit) (defScope sInit) .none kV_ini dc_ini pm_ini an_ini cd_ini ct_ini), sl_ini⟩)
    (c_ini : PySem.W.codeIn K cd_ini "RunError.__init__" = true)
    (k_ini : PySem.W.keepIn K (.ref f_ini) = true)
    (l_clo : K.lookup f_clo = some ⟨oc_clo, od_clo, .func (PySem.W.fnOf "__init__" "Cloth.__init__" (defArgs sClo) (defBody sClo) (defScope sClo) .none kV_clo dc_clo pm_clo an_clo cd_clo ct_clo), sl_clo⟩)
    (c_clo : PySem.W.codeIn K cd_clo "Cloth.__init__" = true)
    (k_clo : PySem.W.keepIn K (.ref f_clo) = true)
    (l_len : K.lookup f_len = some ⟨oc_len, od_len, .func (PySem.W.fnOf "__len__" "Cloth.__len__" (defArgs sLn) (defBody sLn) (defScope sLn) .none kV_len dc_len pm_len an_len cd_len ct_len), sl_len⟩)
    (c_len : PySem.W.codeIn K cd_len "Cloth.__len__" = true)
    (k_len : PySem.W.keepIn K (.ref f_len) = true)
    (l_wf : K.lookup f_wf = some ⟨oc_wf, od_wf, .func (PySem.W.fnOf "with_fast" "Cloth.with_fast" (defArgs sWf) (defBody sWf) (defScope sWf) .none kV_wf dc_wf pm_wf an_wf cd_wf ct_wf), sl_wf⟩)
    (c_wf : PySem.W.codeIn K cd_wf "Cloth.with_fast" = true)
    (k_wf : PySem.W.keepIn K (.ref f_wf) = true)
    (l_wo : K.lookup f_wo = some ⟨oc_wo, od_wo, .func (PySem.W.fnOf "without_fast" "Cloth.without_fast" (defArgs sWo) (defBody sWo) (defScope sWo) .none kV_wo dc_wo pm_wo an_wo cd_wo ct_wo), sl_wo⟩)
    (c_wo : PySem.W.codeIn K cd_wo "Cloth.without_fast" = true)
    (k_wo : PySem.W.keepIn K (.ref f_wo) = true)
    (l_add : K.lookup f_add = some ⟨oc_add, od_add, .func (PySem.W.fnOf "__add__" "Cloth.__add__" (defArgs sAdd) (defBody sAdd) (defScope sAdd) .none kV_add dc_add pm_add an_add cd_add ct_add), sl_add⟩)
    (c_add : PySem.W.codeIn K cd_add "Cloth.__add__" = true)
    (k_add : PySem.W.keepIn K (.ref f_add) = true)
    (l_gl : K.lookup f_gl = some ⟨oc_gl, od_gl, .func (PySem.W.fnOf "loops" "Cloth.loops" (defArgs sPl) (defBody sPl) (defScope sPl) .none kV_gl dc_gl pm_gl an_gl cd_gl ct_gl), sl_gl⟩)
    (c_gl : PySem.W.codeIn K cd_gl "Cloth.loops" = true)
    (k_gl : PySem.W.keepIn K (.ref f_gl) = true)
    (l_gf : K.lookup f_gf = some ⟨oc_gf, od_gf, .func (PySem.W.fnOf "fast" "Cloth.fast" (defArgs sPf) (defBody sPf) (defScope sPf) .none kV_gf dc_gf pm_gf an_gf cd_gf ct_gf), sl_gf⟩)
    (c_gf : PySem.W.codeIn K cd_gf "Cloth.fast" = true)
    (k_gf : PySem.W.keepIn K (.ref f_gf) = true)
    (hF : chkE K f_ini CF = true)
    (hL : chkE K f_ini CL = true)
    (hU : chkE K f_ini CU = true)
    (hC : chkC K CC = true)
    (hP : (chkP K p_gl && chkP K p_gf) = true)
    (hN : chkN K = true)
    (hS : PySem.W.selfFirst K CC = true)
    (hUU : PySem.W.exmOne K (.ref CU) (.ref CU) = some true)
    : ∃ fd : FuncData, (∀ (s : Shared) (v : Value), BindsTo s fd ⟨[v], []⟩ [("script", v)]) ∧ ∀ base : Heap, K.In base → base.Ns mainGlobals mg → FnOk P w K mg base CX0 12 fa fd ["script"] (spLaw K) := by
  have e := hfa.symm.trans (PySem.W.mg_of X G n_law)
  cases e
  have B : Bl mg := fun n hn => PySem.W.mg_none_of X G (of_decide_eq_true (List.all_eq_true.mp hN n hn))
  have XF := xce_of (PySem.W.mg_of X G aF) xF hF
  have XL' := xce_of (PySem.W.mg_of X G aL) xL hL
  have XU := xce_of (PySem.W.mg_of X G aU) xU hU
  obtain ⟨cc, n1, n2, it⟩ := chkC_of hC
  simp only [Bool.and_eq_true] at hP
  obtain ⟨hP0, hP1⟩ := hP
  have aL' := prp_of n_gl q_gl hP0
  have aF' := prp_of n_gf q_gf hP1
  have F_ply := fun_mk (st := sPly) l_ply c_ply k_ply
  have b_ply := F_ply.binds (ps := ["creel", "span"]) fun _ _ _ _ _ _ us hl => match us, hl with | [_, _], _ => rfl
  have F_cre := fun_mk (st := sCreel) l_cre c_cre k_cre
  have b_cre := F_cre.binds (ps := ["script", "at"]) fun _ _ _ _ _ _ us hl => match us, hl with | [_, _], _ => rfl
  have F_int := fun_mk (st := sIsInt) l_int c_int k_int
  have b_int := F_int.binds (ps := ["value"]) fun _ _ _ _ _ _ us hl => match us, hl with | [_], _ => rfl
  have F_num := fun_mk (st := sIsNum) l_num c_num k_num
  have b_num := F_num.binds (ps := ["value", "many"]) fun _ _ _ _ _ _ us hl => match us, hl with | [_, _], _ => rfl
  have F_thr := fun_mk (st := sIsThr) l_thr c_thr k_thr
  have b_thr := F_thr.binds (ps := ["value"]) fun _ _ _ _ _ _ us hl => match us, hl with | [_], _ => rfl
  have F_wro := fun_mk (st := sWrong) l_wro c_wro k_wro
  have b_wro := F_wro.binds (ps := ["numbers", "many"]) fun _ _ _ _ _ _ us hl => match us, hl with | [_, _], _ => rfl
  have F_par := fun_mk (st := sPar) l_par c_par k_par
  have b_par := F_par.binds (ps := ["value", "many"]) fun _ _ _ _ _ _ us hl => match us, hl with | [_, _], _ => rfl
  have F_loo := fun_mk (st := sIsLoop) l_loo c_loo k_loo
  have b_loo := F_loo.binds (ps := ["value", "number"]) fun _ _ _ _ _ _ us hl => match us, hl with | [_, _], _ => rfl
  have F_ckl := fun_mk (st := sChkL) l_ckl c_ckl k_ckl
  have b_ckl := F_ckl.binds (ps := ["loops"]) fun _ _ _ _ _ _ us hl => match us, hl with | [_], _ => rfl
  have F_ckf := fun_mk (st := sChkF) l_ckf c_ckf k_ckf
  have b_ckf := F_ckf.binds (ps := ["fast", "many"]) fun _ _ _ _ _ _ us hl => match us, hl with | [_, _], _ => rfl
  have F_kid := fun_mk (st := sKids) l_kid c_kid k_kid
  have b_kid := F_kid.binds (ps := ["loops_here", "spot"]) fun _ _ _ _ _ _ us hl => match us, hl with | [_, _], _ => rfl
  have F_yar := fun_mk (st := sYarns) l_yar c_yar k_yar
  have b_yar := F_yar.binds (ps := ["creel", "many"]) fun _ _ _ _ _ _ us hl => match us, hl with | [_, _], _ => rfl
  have F_any := fun_mk (st := sAny) l_any c_any k_any
  have b_any := F_any.binds (ps := ["creel", "most", "yarns"]) fun _ _ _ _ _ _ us hl => match us, hl with | [_, _, _], _ => rfl
  have F_mat := fun_mk (st := sMat) l_mat c_mat k_mat
  have b_mat := F_mat.binds (ps := ["found", "due"]) fun _ _ _ _ _ _ us hl => match us, hl with | [_, _], _ => rfl
  have F_clt := fun_mk (st := sLot) l_clt c_clt k_clt
  have b_clt := F_clt.binds (ps := ["lot", "many"]) fun _ _ _ _ _ _ us hl => match us, hl with | [_, _], _ => rfl
  have F_std := fun_mk (st := sStd) l_std c_std k_std
  have b_std := F_std.binds (ps := ["cloth", "cuts"]) fun _ _ _ _ _ _ us hl => match us, hl with | [_, _], _ => rfl
  have F_run := fun_mk (st := sRun) l_run c_run k_run
  have b_run := F_run.binds (ps := ["cloth", "cuts"]) fun _ _ _ _ _ _ us hl => match us, hl with | [_, _], _ => rfl
  have F_kin := fun_mk (st := sKin) l_kin c_kin k_kin
  have b_kin := F_kin.binds (ps := ["cloth"]) fun _ _ _ _ _ _ us hl => match us, hl with | [_], _ => rfl
  have F_mee := fun_mk (st := sMeet) l_mee c_mee k_mee
  have b_mee := F_mee.binds (ps := ["near", "one", "other"]) fun _ _ _ _ _ _ us hl => match us, hl with | [_, _, _], _ => rfl
  have F_nea := fun_mk (st := sNea) l_nea c_nea k_nea
  have b_nea := F_nea.binds (ps := ["cloth", "cuts"]) fun _ _ _ _ _ _ us hl => match us, hl with | [_, _], _ => rfl
  have F_fts := fun_mk (st := sFits) l_fts c_fts k_fts
  have b_fts := F_fts.binds (ps := ["cloth", "stood", "ran"]) fun _ _ _ _ _ _ us hl => match us, hl with | [_, _, _], _ => rfl
  have F_lst := fun_mk (st := sLst) l_lst c_lst k_lst
  have b_lst := F_lst.binds (ps := ["cloth", "stood", "ran"]) fun _ _ _ _ _ _ us hl => match us, hl with | [_, _, _], _ => rfl
  have F_sur := fun_mk (st := sSur) l_sur c_sur k_sur
  have b_sur := F_sur.binds (ps := ["cloth", "stood", "ran"]) fun _ _ _ _ _ _ us hl => match us, hl with | [_, _, _], _ => rfl
  have F_row := fun_mk (st := sRow) l_row c_row k_row
  have b_row := F_row.binds (ps := ["loops_here", "fast_here", "needle_here", "course", "number"]) fun _ _ _ _ _ _ us hl => match us, hl with | [_, _, _, _, _], _ => rfl
  have F_wrk := fun_mk (st := sWork) l_wrk c_wrk k_wrk
  have b_wrk := F_wrk.binds (ps := ["yarn", "size", "courses"]) fun _ _ _ _ _ _ us hl => match us, hl with | [_, _, _], _ => rfl
  have F_dro := fun_mk (st := sDRow) l_dro c_dro k_dro
  have b_dro := F_dro.binds (ps := ["creel", "count", "yarns", "finite"]) fun _ _ _ _ _ _ us hl => match us, hl with | [_, _, _, _], _ => rfl
  have F_dwo := fun_mk (st := sDWork) l_dwo c_dwo k_dwo
  have b_dwo := F_dwo.binds (ps := ["creel", "yarns", "most", "rows_most", "most_loops"]) fun _ _ _ _ _ _ us hl => match us, hl with | [_, _, _, _, _], _ => rfl
  have F_scn := fun_mk (st := sScene) l_scn c_scn k_scn
  have b_scn := F_scn.binds (ps := ["creel", "most"]) fun _ _ _ _ _ _ us hl => match us, hl with | [_, _], _ => rfl
  have F_som := fun_mk (st := sSome) l_som c_som k_som
  have b_som := F_som.binds (ps := ["creel", "count", "most"]) fun _ _ _ _ _ _ us hl => match us, hl with | [_, _, _], _ => rfl
  have F_upr := fun_mk (st := sUpr) l_upr c_upr k_upr
  have b_upr := F_upr.binds (ps := ["loops_here", "fast_here", "cuts_here"]) fun _ _ _ _ _ _ us hl => match us, hl with | [_, _, _], _ => rfl
  have F_fal := fun_mk (st := sFal) l_fal c_fal k_fal
  have b_fal := F_fal.binds (ps := ["loops_here", "fast_here", "cuts_here"]) fun _ _ _ _ _ _ us hl => match us, hl with | [_, _, _], _ => rfl
  have F_clp := fun_mk (st := sCklp) l_clp c_clp k_clp
  have b_clp := F_clp.binds (ps := ["loop", "many"]) fun _ _ _ _ _ _ us hl => match us, hl with | [_, _], _ => rfl
  have F_rai := fun_mk (st := sRai) l_rai c_rai k_rai
  have b_rai := F_rai.binds (ps := ["numbers", "many"]) fun _ _ _ _ _ _ us hl => match us, hl with | [_, _], _ => rfl
  have F_shw := fun_mk (st := sShw) l_shw c_shw k_shw
  have b_shw := F_shw.binds (ps := ["cloth", "stood", "ran", "loop"]) fun _ _ _ _ _ _ us hl => match us, hl with | [_, _, _, _], _ => rfl
  have F_beh := fun_mk (st := sBeh) l_beh c_beh k_beh
  have b_beh := F_beh.binds (ps := ["here", "told", "spot", "stands", "seen"]) fun _ _ _ _ _ _ us hl => match us, hl with | [_, _, _, _, _], _ => rfl
  have F_ahd := fun_mk (st := sAhd) l_ahd c_ahd k_ahd
  have b_ahd := F_ahd.binds (ps := ["elder"]) fun _ _ _ _ _ _ us hl => match us, hl with | [_], _ => rfl
  have F_mkd := fun_mk (st := sMkd) l_mkd c_mkd k_mkd
  have b_mkd := F_mkd.binds (ps := ["creel", "here"]) fun _ _ _ _ _ _ us hl => match us, hl with | [_, _], _ => rfl
  have F_due := fun_mk (st := sDus) l_due c_due k_due
  have b_due := F_due.binds (ps := ["here", "seen"]) fun _ _ _ _ _ _ us hl => match us, hl with | [_, _], _ => rfl
  have F_unf := fun_mk (st := sUnf) l_unf c_unf k_unf
  have b_unf := F_unf.binds (ps := ["web", "up", "down", "way"]) fun _ _ _ _ _ _ us hl => match us, hl with | [_, _, _, _], _ => rfl
  have F_ctr := fun_mk (st := sCtr) l_ctr c_ctr k_ctr
  have b_ctr := F_ctr.binds (ps := ["creel", "web", "here", "up", "down"]) fun _ _ _ _ _ _ us hl => match us, hl with | [_, _, _, _, _], _ => rfl
  have F_sto := fun_mk (st := sStr) l_sto c_sto k_sto
  have b_sto := F_sto.binds (ps := ["creel", "web", "here"]) fun _ _ _ _ _ _ us hl => match us, hl with | [_, _, _], _ => rfl
  have F_law := fun_mk (st := sLaw) l_law c_law k_law
  have F_ini := fun_mk (st := sInit) l_ini c_ini k_ini
  have b_ini := F_ini.binds (ps := ["self", "value"]) fun _ _ _ _ _ _ us hl => match us, hl with | [_, _], _ => rfl
  have F_clo := fun_mk (st := sClo) l_clo c_clo k_clo
  have b_clo := F_clo.binds (ps := ["self", "loops", "fast"]) fun _ _ _ _ _ _ us hl => match us, hl with | [_, _, _], _ => rfl
  have F_len := fun_mk (st := sLn) l_len c_len k_len
  have b_len := F_len.binds (ps := ["self"]) fun _ _ _ _ _ _ us hl => match us, hl with | [_], _ => rfl
  have F_wf := fun_mk (st := sWf) l_wf c_wf k_wf
  have b_wf := F_wf.binds (ps := ["self", "loop"]) fun _ _ _ _ _ _ us hl => match us, hl with | [_, _], _ => rfl
  have F_wo := fun_mk (st := sWo) l_wo c_wo k_wo
  have b_wo := F_wo.binds (ps := ["self", "loop"]) fun _ _ _ _ _ _ us hl => match us, hl with | [_, _], _ => rfl
  have F_add := fun_mk (st := sAdd) l_add c_add k_add
  have b_add := F_add.binds (ps := ["self", "other"]) fun _ _ _ _ _ _ us hl => match us, hl with | [_, _], _ => rfl
  have F_gl := fun_mk (st := sPl) l_gl c_gl k_gl
  have b_gl := F_gl.binds (ps := ["self"]) fun _ _ _ _ _ _ us hl => match us, hl with | [_], _ => rfl
  have F_gf := fun_mk (st := sPf) l_gf c_gf k_gf
  have b_gf := F_gf.binds (ps := ["self"]) fun _ _ _ _ _ _ us hl => match us, hl with | [_], _ => rfl
  have bd : Bind1 K (PySem.W.fnOf "__init__" "RunError.__init__" (defArgs sInit) (defBody sInit) (defScope sInit) .none kV_ini dc_ini pm_ini an_ini cd_ini ct_ini) "value" := ⟨fun s a u _ => .of_eq rfl, fun s a u _ => .of_eq rfl⟩
  have m : ∀ {n : Str} {f : Addr}, PySem.W.nsIn K mainGlobals n = some (some (.ref f)) → mg n = some (.ref f) := fun q => PySem.W.mg_of X G q
  refine ⟨PySem.W.fnOf "law" "law" (defArgs sLaw) (defBody sLaw) (defScope sLaw) .none kV_law dc_law pm_law an_law cd_law ct_law, fun s v => .of_eq rfl, fun base _ _ => ?_⟩
  have I : Ini P w K mg base f_ini _ := ⟨ok_init F_ini, bd⟩
  have G_ply := ok_ply (P := P) (w := w) (base := base) F_ply B
  have G_cre := ok_creel (P := P) (w := w) (base := base) F_cre B
  have G_int := ok_IsInt (P := P) (w := w) (base := base) F_int B
  have G_num := ok_IsNum F_num B G_int (m n_int) k_int b_int
  have G_thr := ok_IsThr (P := P) (w := w) (base := base) F_thr B ⟨_, PySem.W.mg_of X G aT⟩
  have G_wro := ok_Wrong F_wro B G_num (m n_num) k_num b_num
  have G_par := ok_Par F_par B G_num (m n_num) k_num b_num
  have G_loo := ok_IsLoop F_loo B G_thr (m n_thr) k_thr b_thr G_par (m n_par) k_par b_par
  have G_ckl := ok_ChkL F_ckl B G_loo (m n_loo) k_loo b_loo I XL'
  have G_ckf := ok_ChkF F_ckf B G_wro (m n_wro) k_wro b_wro I XF
  have G_clo := ok_Clo (CC := CC) F_clo B G_ckl (m n_ckl) k_ckl b_ckl G_ckf (m n_ckf) k_ckf b_ckf
  have G_kid := ok_kids (P := P) (w := w) (base := base) F_kid B
  have G_yar := ok_yarns F_yar F_ply B (m n_ply) b_ply G_ply
  have G_any := ok_any F_any F_ply F_kid B (m n_ply) (m n_kid) b_ply b_kid G_ply G_kid
  have G_mat : FnOk P w K mg base CX0 6 f_mat _ ["found", "due"] (spM K 6) := mat_step 5 F_mat B (m n_mat) b_mat (mat_step 4 F_mat B (m n_mat) b_mat (mat_step 3 F_mat B (m n_mat) b_mat (mat_step 2 F_mat B (m n_mat) b_mat (mat_step 1 F_mat B (m n_mat) b_mat (mat_step 0 F_mat B (m n_mat) b_mat ok_never)))))
  have G_clt := ok_lot F_clt B G_wro (m n_wro) k_wro b_wro
  have Pr : Pr2 P w K mg base CC := { pL := _, pF := _, gL := _, gF := _, gN := _, fL := _, fF := _, fN := _, aL := aL', aF := aF', aN := ⟨n_len, i_len⟩, bL := b_gl, bF := b_gf, bN := b_len, oL := ok_Pl F_gl B, oF := ok_Pf F_gf B, oN := ok_Ln F_len B, cc := cc, n1 := n1, n2 := n2 }
  have G_std := ok_std Pr F_std B G_clt (m n_clt) k_clt b_clt
  have G_run := ok_run Pr F_run B G_std (m n_std) k_std b_std
  have G_kin := ok_Kin F_kin B Pr
  have G_mee := ok_Meet (P := P) (w := w) (base := base) F_mee B
  have G_nea := ok_Nea F_nea B Pr G_std (m n_std) k_std b_std G_kin (m n_kin) k_kin b_kin G_mee (m n_mee) k_mee b_mee
  have G_fts := ok_fits Pr F_fts B G_std (m n_std) k_std b_std G_clt (m n_clt) k_clt b_clt
  have G_lst := ok_lst F_lst B G_fts (m n_fts) k_fts b_fts G_run (m n_run) k_run b_run
  have G_sur := ok_Sur F_sur B Pr G_fts (m n_fts) k_fts b_fts G_nea (m n_nea) k_nea b_nea G_run (m n_run) k_run b_run
  have G_row := ok_row (P := P) (w := w) (base := base) F_row B
  have G_wrk := ok_work F_wrk F_row B (m n_row) b_row G_row
  have G_dro := ok_drow F_dro F_ply B (m n_ply) b_ply G_ply
  have G_dwo := ok_dwork F_dwo F_ply F_row F_wrk F_dro B (m n_ply) (m n_row) (m n_wrk) (m n_dro) b_ply b_row b_wrk b_dro G_ply G_row G_wrk G_dro
  have G_scn := ok_scene F_scn F_ply F_yar F_any F_wrk F_dwo B (m n_ply) (m n_yar) (m n_any) (m n_wrk) (m n_dwo) b_ply b_yar b_any b_wrk b_dwo G_ply G_yar G_any G_wrk G_dwo
  have G_som := ok_some F_som F_ply B (m n_ply) b_ply G_ply
  have G_upr := ok_upr (P := P) (w := w) (base := base) F_upr B
  have G_fal := ok_fal F_fal F_upr B (m n_upr) b_upr G_upr
  have Cl : Cl2 P w K mg base CC CF CL := { fC := _, dC := _, cc := cc, n1 := n1, n2 := n2, mC := ⟨mC, n_clo, i_clo, kC⟩, oC := G_clo, gC := m aC, bC := b_clo }
  have G_clp := ok_Cklp F_clp B G_num (m n_num) k_num b_num
  have G_rai := ok_RaT (P := P) (w := w) (base := base) F_rai B
  have G_rt := ok_RaT (P := P) (w := w) (base := base) F_rai B
  have G_rl := ok_RaL (P := P) (w := w) (base := base) F_rai B
  have G_wf := ok_Wf F_wf B Cl G_clp (m n_clp) k_clp b_clp
  have G_wo := ok_Wo F_wo B Cl G_clp (m n_clp) k_clp b_clp
  have G_add := ok_Add F_add B Cl it G_rt (m n_rai) k_rai b_rai G_rl (m n_rai) k_rai b_rai
  have G_shw := ok_Shw F_shw B Pr G_clt (m n_clt) k_clt b_clt G_clp (m n_clp) k_clp b_clp G_sur (m n_sur) k_sur b_sur
  have G_sux := ok_SuX (CU := CU) F_sur B I XU Pr G_fts (m n_fts) k_fts b_fts
  have G_shx := ok_ShX (CU := CU) F_shw B Pr G_clt (m n_clt) k_clt b_clt G_clp (m n_clp) k_clp b_clp G_sux (m n_sur) k_sur b_sur
  have G_beh := ok_Beh F_beh B G_upr (m n_upr) k_upr b_upr G_mat (m n_mat) k_mat b_mat
  have G_ahd := ok_Ahd F_ahd B Pr G_fts (m n_fts) k_fts b_fts G_lst (m n_lst) k_lst b_lst G_sur (m n_sur) k_sur b_sur
  have G_mkd := ok_Mkd F_mkd B Pr Cl G_wf ⟨n_wf, i_wf, k_wf⟩ b_wf G_wo ⟨n_wo, i_wo, k_wo⟩ b_wo G_add ⟨n_add, i_add, hS⟩ b_add G_ply (m n_ply) k_ply b_ply G_ahd (m n_ahd) k_ahd b_ahd
  have G_due := ok_Dus F_due B G_fal (m n_fal) k_fal b_fal G_upr (m n_upr) k_upr b_upr
  have G_unf := ok_Unf F_unf B XU hUU G_sux (m n_sur) k_sur b_sur G_shx (m n_shw) k_shw b_shw
  have G_ctr := ok_Ctr F_ctr B G_fts (m n_fts) k_fts b_fts G_lst (m n_lst) k_lst b_lst G_fal (m n_fal) k_fal b_fal G_som (m n_som) k_som b_som G_unf (m n_unf) k_unf b_unf G_mat (m n_mat) k_mat b_mat
  have G_sto := ok_Str F_sto B G_fts (m n_fts) k_fts b_fts G_lst (m n_lst) k_lst b_lst G_sur (m n_sur) k_sur b_sur G_shw (m n_shw) k_shw b_shw G_fal (m n_fal) k_fal b_fal G_som (m n_som) k_som b_som G_due (m n_due) k_due b_due G_beh (m n_beh) k_beh b_beh G_ctr (m n_ctr) k_ctr b_ctr G_mat (m n_mat) k_mat b_mat
  exact ok_Law F_law B G_cre (m n_cre) k_cre b_cre G_scn (m n_scn) k_scn b_scn G_mkd (m n_mkd) k_mkd b_mkd G_sto (m n_sto) k_sto b_sto
theorem walk {l : PySem.W.OpenLaw} {q : Program} {loose : List Str} {XP : (Str → Option Value) → Heap → Prop} {YP : World → Heap → Prop} {d : DefRec} {K : Params → PySem.W.Frag} (hn : l.most = some 63) (hdf : d.params.defaults = [])
    (hY : ∀ (w : World) (h : Heap), YP w h → (K w.params).In h)
    (F : ∀ (w : World) (mg : Str → Option Value) (fa : Addr) (h : Heap), (K w.params).In h → h.Ns mainGlobals mg → mg d.name = some (.ref fa) →
      ∃ fd : FuncData, (∀ (s : Shared) (u : Value), BindsTo s fd ⟨[u], []⟩ [("script", u)]) ∧ ∀ base : Heap, (K w.params).In base → base.Ns mainGlobals mg → FnOk l.prog w (K w.params) mg base CX0 12 fa fd ["script"] (spLaw (K w.params))) :
    PySem.W.WalkO q loose XP YP l.row.toRowW d [] (fun f vs => PySem.call f vs) :=
  L2.walk_of (n := 63) (k := 12) (x := "script") (CX := fun _ => CX0) (sp := fun w => spLaw (K w.params)) hn (by decide) hdf ⟨rfl, by decide, by decide⟩ hY F (fun _ _ a ns hl _ hS => ⟨a, ns, rfl, hS, hl, fun _ => rfl⟩) fun _ _ _ _ _ z => z
end B7
open PySem PySem.W PyProof.Rows
set_option maxRecDepth 100000 in
set_option maxHeartbeats 0 in
theorem PySem.Challenge.cw_runsdown_k17_seen_runs_of_greater_cloths_holds : PySem.Challenge.rw_runsdown_k17_seen_runs_of_greater_cloths.Holds := by
  w_on; o_law; k_head; (case hw => w_witness2)
  k_fill
  refine B7.walk (l := PySem.Challenge.rw_runsdown_k17_seen_runs_of_greater_cloths) rfl rfl (fun w h Y => PySem.W.kIn_of Y) ?F
  case F =>
    intro w mg fa h KX G hmg
    refine' B7.all_mk KX G hmg ?aR ?aF ?xF ?aL ?xL ?aU ?xU ?aC ?mC ?kC ?aT ?n_ply ?n_cre ?n_int ?n_num ?n_thr ?n_wro ?n_par ?n_loo ?n_ckl ?n_ckf ?n_kid ?n_yar ?n_any ?n_mat ?n_clt ?n_std ?n_run ?n_kin ?n_mee ?n_nea ?n_fts ?n_lst ?n_sur ?n_row ?n_wrk ?n_dro ?n_dwo ?n_scn ?n_som ?n_upr ?n_fal ?n_clp ?n_rai ?n_shw ?n_beh ?n_ahd ?n_mkd ?n_due ?n_unf ?n_ctr ?n_sto ?n_law ?n_ini ?i_ini ?n_clo ?i_clo ?n_len ?i_len ?n_wf ?i_wf ?n_wo ?i_wo ?n_add ?i_add ?n_gl ?q_gl ?n_gf ?q_gf ?l_ply ?c_ply ?k_ply ?l_cre ?c_cre ?k_cre ?l_int ?c_int ?k_int ?l_num ?c_num ?k_num ?l_thr ?c_thr ?k_thr ?l_wro ?c_wro ?k_wro ?l_par ?c_par ?k_par ?l_loo ?c_loo ?k_loo ?l_ckl ?c_ckl ?k_ckl ?l_ckf ?c_ckf ?k_ckf ?l_kid ?c_kid ?k_kid ?l_yar ?c_yar ?k_yar ?l_any ?c_any ?k_any ?l_mat ?c_mat ?k_mat ?l_clt ?c_clt ?k_clt ?l_std ?c_std ?k_std ?l_run ?c_run ?k_run ?l_kin ?c_kin ?k_kin ?l_mee ?c_mee ?k_mee ?l_nea ?c_nea ?k_nea ?l_fts ?c_fts ?k_fts ?l_lst ?c_lst ?k_lst ?l_sur ?c_sur ?k_sur ?l_row ?c_row ?k_row ?l_wrk ?c_wrk ?k_wrk ?l_dro ?c_dro ?k_dro ?l_dwo ?c_dwo ?k_dwo ?l_scn ?c_scn ?k_scn ?l_som ?c_som ?k_som ?l_upr ?c_upr ?k_upr ?l_fal ?c_fal ?k_fal ?l_clp ?c_clp ?k_clp ?l_rai ?c_rai ?k_rai ?l_shw ?c_shw ?k_shw ?l_beh ?c_beh ?k_beh ?l_ahd ?c_ahd ?k_ahd ?l_mkd ?c_mkd ?k_mkd ?l_due ?c_due ?k_due ?l_unf ?c_unf ?k_unf ?l_ctr ?c_ctr ?k_ctr ?l_sto ?c_sto ?k_sto ?l_law ?c_law ?k_law ?l_ini ?c_ini ?k_ini ?l_clo ?c_clo ?k_clo ?l_len ?c_len ?k_len ?l_wf ?c_wf ?k_wf ?l_wo ?c_wo ?k_wo ?l_add ?c_add ?k_add ?l_gl ?c_gl ?k_gl ?l_gf ?c_gf ?k_gf ?hF ?hL ?hU ?hC ?hP ?hN ?hS ?hUU
    (case aR => k_is)
    (case aF => k_is)
    (case xF => (refine' B7.clse_mk ?zxe ?zxr; (case zxe => k_is); (case zxr => decide +kernel)))
    (case aL => k_is)
    (case xL => (refine' B7.clse_mk ?zxe ?zxr; (case zxe => k_is); (case zxr => decide +kernel)))
    (case aU => k_is)
    (case xU => (refine' B7.clse_mk ?zxe ?zxr; (case zxe => k_is); (case zxr => decide +kernel)))
    (case aC => k_is)
    (case mC => k_is)
    (case kC => k_is)
    (case aT => k_is)
    (case n_ply => k_is)
    (case n_cre => k_is)
    (case n_int => k_is)
    (case n_num => k_is)
    (case n_thr => k_is)
    (case n_wro => k_is)
    (case n_par => k_is)
    (case n_loo => k_is)
    (case n_ckl => k_is)
    (case n_ckf => k_is)
    (case n_kid => k_is)
    (case n_yar => k_is)
    (case n_any => k_is)
    (case n_mat => k_is)
    (case n_clt => k_is)
    (case n_std => k_is)
    (case n_run => k_is)
    (case n_kin => k_is)
    (case n_mee => k_is)
    (case n_nea => k_is)
    (case n_fts => k_is)
    (case n_lst => k_is)
    (case n_sur => k_is)
    (case n_row => k_is)
    (case n_wrk => k_is)
    (case n_dro => k_is)
    (case n_dwo => k_is)
    (case n_scn => k_is)
    (case n_som => k_is)
    (case n_upr => k_is)
    (case n_fal => k_is)
    (case n_clp => k_is)
    (case n_rai => k_is)
    (case n_shw => k_is)
    (case n_beh => k_is)
    (case n_ahd => k_is)
    (case n_mkd => k_is)
    (case n_due => k_is)
    (case n_unf => k_is)
    (case n_ctr => k_is)
    (case n_sto => k_is)
    (case n_law => k_is)
    (case n_ini => k_is)
    (case i_ini => k_is)
    (case n_clo => k_is)
    (case i_clo => k_is)
    (case n_len => k_is)
    (case i_len => k_is)
    (case n_wf => k_is)
    (case i_wf => k_is)
    (case n_wo => k_is)
    (case i_wo => k_is)
    (case n_add => k_is)
    (case i_add => k_is)
    (case n_gl => k_is)
    (case q_gl => k_is)
    (case n_gf => k_is)
    (case q_gf => k_is)
    (case l_ply => k_is)
    (case c_ply => k_is)
    (case k_ply => k_is)
    (case l_cre => k_is)
    (case c_cre => k_is)
    (case k_cre => k_is)
    (case l_int => k_is)
    (case c_int => k_is)
    (case k_int => k_is)
    (case l_num => k_is)
    (case c_num => k_is)
    (case k_num => k_is)
    (case l_thr => k_is)
    (case c_thr => k_is)
    (case k_thr => k_is)
    (case l_wro => k_is)
    (case c_wro => k_is)
    (case k_wro => k_is)
    (case l_par => k_is)
    (case c_par => k_is)
    (case k_par => k_is)
    (case l_loo => k_is)
    (case c_loo => k_is)
    (case k_loo => k_is)
    (case l_ckl => k_is)
    (case c_ckl => k_is)
    (case k_ckl => k_is)
    (case l_ckf => k_is)
    (case c_ckf => k_is)
    (case k_ckf => k_is)
    (case l_kid => k_is)
    (case c_kid => k_is)
    (case k_kid => k_is)
    (case l_yar => k_is)
    (case c_yar => k_is)
    (case k_yar => k_is)
    (case l_any => k_is)
    (case c_any => k_is)
    (case k_any => k_is)
    (case l_mat => k_is)
    (case c_mat => k_is)
    (case k_mat => k_is)
    (case l_clt => k_is)
    (case c_clt => k_is)
    (case k_clt => k_is)
    (case l_std => k_is)
    (case c_std => k_is)
    (case k_std => k_is)
    (case l_run => k_is)
    (case c_run => k_is)
    (case k_run => k_is)
    (case l_kin => k_is)
    (case c_kin => k_is)
    (case k_kin => k_is)
    (case l_mee => k_is)
    (case c_mee => k_is)
    (case k_mee => k_is)
    (case l_nea => k_is)
    (case c_nea => k_is)
    (case k_nea => k_is)
    (case l_fts => k_is)
    (case c_fts => k_is)
    (case k_fts => k_is)
    (case l_lst => k_is)
    (case c_lst => k_is)
    (case k_lst => k_is)
    (case l_sur => k_is)
    (case c_sur => k_is)
    (case k_sur => k_is)
    (case l_row => k_is)
    (case c_row => k_is)
    (case k_row => k_is)
    (case l_wrk => k_is)
    (case c_wrk => k_is)
    (case k_wrk => k_is)
    (case l_dro => k_is)
    (case c_dro => k_is)
    (case k_dro => k_is)
    (case l_dwo => k_is)
    (case c_dwo => k_is)
    (case k_dwo => k_is)
    (case l_scn => k_is)
    (case c_scn => k_is)
    (case k_scn => k_is)
    (case l_som => k_is)
    (case c_som => k_is)
    (case k_som => k_is)
    (case l_upr => k_is)
    (case c_upr => k_is)
    (case k_upr => k_is)
    (case l_fal => k_is)
    (case c_fal => k_is)
    (case k_fal => k_is)
    (case l_clp => k_is)
    (case c_clp => k_is)
    (case k_clp => k_is)
    (case l_rai => k_is)
    (case c_rai => k_is)
    (case k_rai => k_is)
    (case l_shw => k_is)
    (case c_shw => k_is)
    (case k_shw => k_is)
    (case l_beh => k_is)
    (case c_beh => k_is)
    (case k_beh => k_is)
    (case l_ahd => k_is)
    (case c_ahd => k_is)
    (case k_ahd => k_is)
    (case l_mkd => k_is)
    (case c_mkd => k_is)
    (case k_mkd => k_is)
    (case l_due => k_is)
    (case c_due => k_is)
    (case k_due => k_is)
    (case l_unf => k_is)
    (case c_unf => k_is)
    (case k_unf => k_is)
    (case l_ctr => k_is)
    (case c_ctr => k_is)
    (case k_ctr => k_is)
    (case l_sto => k_is)
    (case c_sto => k_is)
    (case k_sto => k_is)
    (case l_law => k_is)
    (case c_law => k_is)
    (case k_law => k_is)
    (case l_ini => k_is)
    (case c_ini => k_is)
    (case k_ini => k_is)
    (case l_clo => k_is)
    (case c_clo => k_is)
    (case k_clo => k_is)
    (case l_len => k_is)
    (case c_len => k_is)
    (case k_len => k_is)
    (case l_wf => k_is)
    (case c_wf => k_is)
    (case k_wf => k_is)
    (case l_wo => k_is)
    (case c_wo => k_is)
    (case k_wo => k_is)
    (case l_add => k_is)
    (case c_add => k_is)
    (case k_add => k_is)
    (case l_gl => k_is)
    (case c_gl => k_is)
    (case k_gl => k_is)
    (case l_gf => k_is)
    (case c_gf => k_is)
    (case k_gf => k_is)
    (case hF => kernel_rfl)
    (case hL => kernel_rfl)
    (case hU => kernel_rfl)
    (case hC => kernel_rfl)
    (case hP => kernel_rfl)
    (case hN => kernel_rfl)
    (case hS => kernel_rfl)
    (case hUU => kernel_rfl)
