import PyProof.Rows.All
import Wide.All
import OpenK.AllK
import Wide.FinOn
import HandS.ForExc
import HandS.HotCalls
import HandS.ExcInit
import HandS.ExcIs
import HandS.ExcField
import KE.KIsAll
import PyProof.Rows.CountFlat
import HandS.ForMost
import HandS.Wide
import HandS.Walk
import HandS.IsInst
import HandS.Comp
import HandS.Conv
import HandS.Zip
import HandS.Strs
import HandS.TupAny
import HandS.SortInts
import HandS.Style
import HandS.Base
import HandS.Call
import HandS.List
import HandS.MakeKwOnly
import HandS.Property
import HandS.ExcCtx
import OpenK.KOps
import HandS.Ends
import PyProof.ReprRoads
import HandS.OwnEq
import HandS.Set
import HandS.SetBool
import PyProof.Rows.SortStr
import PyProof.Rows.SortShellAny
import HandS.Iter
import HandS.RaiseMore
import PyProof.ReprLen
import PyProof.CallStr
import HandS.Deep
import HandS.RevRange
import HandS.Sort
import HandS.TryOnly
import PyProof.LongRange
import HandS.TupMul
import PySem.Challenge.RW_runsdown_k26_sizes_and_places_refused
set_option Elab.async false
set_option linter.all false
set_option maxRecDepth 100000
set_option maxHeartbeats 4000000
/-! An own error class over ValueError, called with positional values and keywords: the model's own steps. -/
namespace MXa
open PySem PySem.W PySem.Calls PyProof.Rows PySem.HandSPX
open Builtin Builtin.ObjectAttr
section
variable {M : Model} {prog : Program} {w : World} {A : Around} {E : Value → Shared → Prop} {R : Result → Shared → Prop} {h : Heap} {g : Array GenState} {d : Drawn} {t : Nat} {os : OsState}
variable {nm q : Str} {C N : Addr} {bs bm bmB : List Value} {hdct : Bool} {sn : List Str} {sub : List Value} {ab : Bool} {col : Option Bool} {dd : Option Addr} {k0 k1 k2 k3 k5 : Option Value} {B newId initId : String}

theorem newCheck (F : ExcBaseFacts B newId initId bmB) (hT : ∀ X : String, bm.contains (.type X) = bmB.contains (.type X)) {ps : List Value} {kw : List (Str × Value)} {Q : Unit → Shared → Prop}
    (cl : h.get? C = some (excClassObj nm q C N bs bm hdct sn sub ab col dd k0 k1 k2 k3 k5 newId)) (go : Q () ⟨h, g, d, t, os⟩) : wpAny M A (checkBuiltinCall newId ⟨.ref C :: ps, kw⟩) Q E ⟨h, g, d, t, os⟩ := by
  have has : (Value.ref C :: bm).contains (.type B) = true := by
    rw [List.contains_cons, hT, F.hasB, Bool.or_true]
  have star := F.noStar
  simp only [checkBuiltinCall, F.newKind, F.newSplit, F.newRow]
  repeat (first
    | refine wpAny_loadPart_at cl ?_
    | (refine wpAny_isSubtype_exc cl ?_; rw [has])
    | refine wpAny_staticBase_exc cl ?_
    | refine wpAny_madeBy_exc cl ?_
    | simp only [bne_self_eq_false, Bool.false_eq_true, if_false]
    | wp_step)
  all_goals first | exact go | trace_state

theorem newBody (F : ExcBaseFacts B newId initId bmB) (hT : ∀ X : String, bm.contains (.type X) = bmB.contains (.type X)) {ps : List Value} {kw : List (Str × Value)}
    (cl : h.get? C = some (excClassObj nm q C N bs bm hdct sn sub ab col dd k0 k1 k2 k3 k5 newId)) (short : ps.length ≤ sizeLine)
    (go : R (.ok (.ret (.ref (h.objs.size + 1)))) ⟨(h.push (W.kdv_tup ps)).push (excO C h.objs.size), g, d, t, os⟩) :
    codeAny (model prog w) A (.builtin newId ⟨.ref C :: ps, kw⟩) R ⟨h, g, d, t, os⟩ := by
  have es := F.ends
  have yB : (Value.ref C :: bm).contains (.type B) = true := by
    rw [List.contains_cons, hT, F.hasB, Bool.or_true]
  have nA : (Value.ref C :: bm).contains (.type "AttributeError") = false := by
    rw [List.contains_cons, hT, F.noAttr]
    rfl
  have nN : (Value.ref C :: bm).contains (.type "NameError") = false := by
    rw [List.contains_cons, hT, F.noName]
    rfl
  refine codeAny_builtinAt F.entry ?_
  unfold Builtin.«BaseException.__new__»
  refine PySem.wpAt_bind ?_
  show PySem.wpAt _ _ _ (stack >>= _) _ _ _
  refine PySem.wpAt_bind (PySem.wpAt_stack fun z zs => PySem.wpAt_of_wpAny ?_)
  wp_walk
  refine PySem.wpAt_of_wpAny ?_
  rw [F.owner]
  repeat (first
    | with_reducible refine wpAny_madeHere_exc F.canon cl ?_
    | with_reducible refine wpAny_loadPart_at cl ?_
    | (with_reducible refine wpAny_isSubtype_exc cl ?_; first | rw [yB] | rw [nA] | rw [nN])
    | wp_step)
  show R _ _
  rw [Heap.size_push]
  exact go

theorem typeCall (F : ExcBaseFacts B newId initId bmB) (hT : ∀ X : String, bm.contains (.type X) = bmB.contains (.type X)) {ps : List Value} {kw : List (Str × Value)} {fI : Addr} {Q : Fin → Shared → Prop}
    (cl : h.get? C = some (excClassObj nm q C N bs bm hdct sn sub ab col dd k0 k1 k2 k3 k5 newId)) (short : ps.length ≤ sizeLine)
    (fi : W.Looks (model prog w) h (typeLookup (.ref C) "__init__") (some (.ref fI))) (bi : ∀ self, W.Looks (model prog w) h (bindSpecial (.ref fI) self) (.ref fI, [self]))
    (go : codeAny (model prog w) A (.call (.ref fI) ⟨.ref (h.objs.size + 1) :: ps, kw⟩)
      (fun r s' => match r with | .ok (.ret v) => v = .none ∧ Q (.done (.ret (.ref (h.objs.size + 1)))) s' | .ok _ => False | .error e => E e s')
      ⟨(h.push (W.kdv_tup ps)).push (excO C h.objs.size), g, d, t, os⟩) :
    wpAny (model prog w) A (Builtin.«type.__call__» ⟨.ref C :: ps, kw⟩) Q E ⟨h, g, d, t, os⟩ := by
  repeat (first
    | with_reducible refine wpAny_loadPart_at cl ?_
    | with_reducible refine wpAny_madeBy_exc cl ?_
    | wp_step)
  refine codeAny_call_builtin_code (Code.quiet_builtin _ F.quiet) (newCheck F hT cl ?_)
  refine newBody F hT cl short ?_
  show wpAny _ _ _ _ _ _
  have up : ∀ b o, h.get? b = some o → ((h.push (W.kdv_tup ps)).push (excO C h.objs.size)).get? b = some o := fun b o e =>
    Heap.get?_push_of_some _ (Heap.get?_push_of_some _ e)
  have cl1 := up _ _ cl
  have at1 : ((h.push (W.kdv_tup ps)).push (excO C h.objs.size)).get? (h.objs.size + 1) = some (excO C h.objs.size) := by
    heap_get
  have yC : (Value.ref C :: bm).contains (.ref C) = true := by simp
  have fi1 := fi.keeps up
  have bi1 := (bi (.ref (h.objs.size + 1))).keeps up
  unfold isInstance
  repeat (first
    | with_reducible refine wpAny_loadPart_at at1 ?_
    | (with_reducible refine wpAny_isSubtype_exc cl1 ?_; rw [yC])
    | wp_step)
  show wpAny _ _ (typeLookup (.ref C) _) _ _ _
  refine fi1.at (wpAny_holding (wpAny_bind (bi1.at (wpAny_bind (wpAny_call (codeAny_mono go fun r s' z => ?_))))))
  rcases r with e | (v | _ | _ | _) <;> first | exact z | exact z.elim | skip
  obtain ⟨rfl, z⟩ := z
  first
    | exact wpAny_pure (wpAny_pure z)
    | (wp_walk; exact z)

theorem typeCallCheck {ps : List Value} {kw : List (Str × Value)} {Q : Unit → Shared → Prop} (cl : h.get? C = some (excClassObj nm q C N bs bm hdct sn sub ab col dd k0 k1 k2 k3 k5 newId))
    (go : Q () ⟨h, g, d, t, os⟩) : wpAny M A (checkBuiltinCall "type.__call__" ⟨.ref C :: ps, kw⟩) Q E ⟨h, g, d, t, os⟩ := by
  have f3 := tc_sub
  have ty : (⟨h, g, d, t, os⟩ : Shared).TypeIs (.ref C) "type" := ⟨_, cl, rfl⟩
  simp only [checkBuiltinCall, tc_kind, tc_split]
  repeat (any_goals (first
    | assumption
    | with_reducible refine wpAny_loadPart_at cl ?_
    | with_reducible refine wpAny_onRaise ?_
    | with_reducible refine wpAny_map ?_
    | wp_step))
  all_goals trace_state

theorem callOwn (F : ExcBaseFacts B newId initId bmB) (hT : ∀ X : String, bm.contains (.type X) = bmB.contains (.type X)) {ps : List Value} {kw : List (Str × Value)} {fI : Addr}
    (cl : h.get? C = some (excClassObj nm q C N bs bm hdct sn sub ab col dd k0 k1 k2 k3 k5 newId)) (short : ps.length ≤ sizeLine)
    (fi : W.Looks (model prog w) h (typeLookup (.ref C) "__init__") (some (.ref fI))) (bi : ∀ self, W.Looks (model prog w) h (bindSpecial (.ref fI) self) (.ref fI, [self]))
    (go : codeAny (model prog w) (A.under (.builtin "type.__call__" ⟨.ref C :: ps, kw⟩)) (.call (.ref fI) ⟨.ref (h.objs.size + 1) :: ps, kw⟩) (W.InitBack (h.objs.size + 1) R)
      ⟨(h.push (W.kdv_tup ps)).push (excO C h.objs.size), g, d, t, os⟩) :
    codeAny (model prog w) A (.call (.ref C) ⟨ps, kw⟩) R ⟨h, g, d, t, os⟩ := by
  have f1 := tc_lookup
  have f2 := tc_bind (.ref C)
  have ty : (⟨h, g, d, t, os⟩ : Shared).TypeIs (.ref C) "type" := ⟨_, cl, rfl⟩
  refine codeAny_of_tree ?_
  show wpAny _ _ (callAny (.ref C) _) _ _ _
  repeat (any_goals (first
    | assumption
    | with_reducible refine wpAny_loadPart_at cl ?_
    | wp_step))
  refine ⟨rfl, ?_⟩
  refine codeAny_call_builtin_at (Code.quiet_builtin _ (by decide +kernel)) entry_typeCall (typeCallCheck cl (typeCall F hT cl short fi bi ?_))
  refine codeAny_mono go fun r s' z => ?_
  rcases r with e | (v | _ | _ | _) <;> exact z
end
end MXa
/-! Own error classes with one inherited __init__ that stores one field: made, raised, read, asked. -/
namespace MXb
open PySem PySem.Spec PyProof.Rows L2
abbrev St := L2.St
/-- what the written part says of an error class at C whose __init__ stands at fI and stores the field fl -/
structure XC (K : PySem.W.Frag) (mg : Str → Option Value) (fI C : Addr) (nm fl : Str) : Prop where
  gC : mg nm = some (.ref C)
  ox : OexC K C
  ini : PySem.W.findIn K (.ref C) "__init__" = some (some (.ref fI))
  tyI : PySem.W.typeIn K (.ref fI) = some (.type "function")
  noF : PySem.W.findIn K (.ref C) fl = some none
  xf : XfC K C
  ec : ExcC K C
/-- __init__(self, fl): self.fl = fl -/
def spInit (K : PySem.W.Frag) (fl : Str) : Sp := fun vs H Q _ => ∃ (e C : Addr) (y : V), vs = [.ref e, y] ∧ OexC K C ∧ PySem.W.findIn K (.ref C) fl = some none ∧ H e = some (exo e C none) ∧
  ∀ d, H d = none → d ≠ e → Q .non (upd (upd H d (exd d [(fl, y)])) e (exo e C (some d)))
/-- how the one value comes to __init__: positional (kw none), or by its name -/
structure Bind1 (K : PySem.W.Frag) (fd : FuncData) (fl : Str) : Prop where
  pos : ∀ (s : Shared) (a u : Value), K.In s.heap → BindsTo s fd ⟨[a, u], []⟩ ((["self", fl] : List Str).zip [a, u])
  kw : ∀ (s : Shared) (a u : Value), K.In s.heap → BindsTo s fd ⟨[a], [(fl, u)]⟩ ((["self", fl] : List Str).zip [a, u])
/-- the abstract heap behind C(y): the new error at a, its dict at d -/
def hMade (H : Hp) (a d C : Addr) (fl : Str) (y : V) : Hp := upd (upd (upd H a (exo a C none)) d (exd d [(fl, y)])) a (exo a C (some d))
section
variable {X : Cx} {fI C : Addr} {nm fl : Str} {k : Nat} {fd : FuncData}
theorem run_x {pins : List (Addr × Obj)} {σ : St} {H : Hp} {s : Shared} {y : V} {u : Value} {ps : List Value} {kw : List (Str × Value)} {R : Value → Shared → Prop} (T : XC X.K X.mg fI C nm fl)
    (F1 : FnOk X.prog X.w X.K X.mg X.base CX0 k fI fd ["self", fl] (spInit X.K fl)) (hr : Room (k + 1) X.A) (I : Inv X pins σ H s) (r : RelV y u) (short : ps.length ≤ sizeLine)
    (bi : ∀ (s : Shared) (a : Value), X.K.In s.heap → BindsTo s fd ⟨a :: ps, kw⟩ ((["self", fl] : List Str).zip [a, u]))
    (fin : ∀ (s2 : Shared) (d : Addr), H (s.heap.objs.size + 1) = none → H d = none → d ≠ s.heap.objs.size + 1 → s2.os = s.os → AllBare s2.gens →
      Inv X pins σ (hMade H (s.heap.objs.size + 1) d C fl y) s2 →
      Un (frs X.stack) [] (upd H (s.heap.objs.size + 1) (exo (s.heap.objs.size + 1) C none)) (hMade H (s.heap.objs.size + 1) d C fl y) ((s.heap.push (PySem.W.kdv_tup ps)).push (PySem.HandSPX.excO C s.heap.objs.size)) s2.heap →
      HOk X.prog X.w (hMade H (s.heap.objs.size + 1) d C fl y) s2.heap → R (.ref (s.heap.objs.size + 1)) s2) :
    wpAny (model X.prog X.w) X.A (call (.ref C) ps kw) R X.xe s := by
  obtain ⟨n0, q0, N0, bs0, bm, sn0, sub0, ab0, col0, dd0, k0, k1, k2, k3, k5, hC, hbm⟩ := T.ox.cls
  obtain ⟨hp, g, dr, tk, os⟩ := s
  have above : hp.objs.size ≤ hp.objs.size + 1 := Nat.le_succ _
  have free : H (hp.objs.size + 1) = none := I.hok.fresh above
  have up : ∀ b o, hp.get? b = some o → ((hp.push (PySem.W.kdv_tup ps)).push (PySem.HandSPX.excO C hp.objs.size)).get? b = some o := fun b o e =>
    Heap.get?_push_of_some _ (Heap.get?_push_of_some _ e)
  have at1 : ((hp.push (PySem.W.kdv_tup ps)).push (PySem.HandSPX.excO C hp.objs.size)).get? (hp.objs.size + 1) = some (PySem.HandSPX.excO C hp.objs.size) := by
    heap_get
  have J : Inv X pins σ (upd H (hp.objs.size + 1) (exo (hp.objs.size + 1) C none)) ⟨(hp.push (PySem.W.kdv_tup ps)).push (PySem.HandSPX.excO C hp.objs.size), g, dr, tk, os⟩ :=
    Inv.laid (I := I) (t' := tk) (a := hp.objs.size + 1) (o := exo (hp.objs.size + 1) C none) (h' := (hp.push (PySem.W.kdv_tup ps)).push (PySem.HandSPX.excO C hp.objs.size)) up above (exo_ok at1)
  have rr : Vals [V.ref (hp.objs.size + 1), y] [Value.ref (hp.objs.size + 1), u] := .cons rfl (.cons r .nil)
  refine wpAny_call (MXa.callOwn F.excBase_ValueError (fun Y => PySem.HandSPX.refsVE_contains Y bm hbm) (I.kIn _ _ hC) short (PySem.W.looks_findIn I.kIn T.ini) (fun self => PySem.W.bind_fn I.kIn self T.tyI)
    (codeAny_mono (F1.run _ X.stack _ _ ⟨Value.ref (hp.objs.size + 1) :: ps, kw⟩ [Value.ref (hp.objs.size + 1), u] [V.ref (hp.objs.size + 1), y]
      (fun v H2 => v = .non ∧ ∃ d, H d = none ∧ d ≠ hp.objs.size + 1 ∧ H2 = hMade H (hp.objs.size + 1) d C fl y) E0 (hr.make C ps kw) (J.env0.make C ps kw) (bi _ _ J.kIn) rr
      ⟨hp.objs.size + 1, C, y, rfl, T.ox, T.noF, upd_same, fun d nd ne => ⟨rfl, d, by rw [upd_ne ne] at nd; exact nd, ne, rfl⟩⟩) fun r2 s2 z => ?_))
  cases r2 with
  | error er => exact z.elim
  | ok fl2 =>
    cases fl2 with
    | ret v2 =>
      obtain ⟨v, H', I3, rv, ev, d, nd, ne, rfl⟩ := J.after z
      obtain ⟨v', H2', os2, bare2, un2, hok2, rv', ev', d', nd', ne', eH⟩ := z
      subst ev
      refine ⟨rv, ?_⟩
      subst eH
      have J2 := J.after (Q := fun v H2 => v = v' ∧ H2 = hMade H (hp.objs.size + 1) d' C fl y) ⟨v', _, os2, bare2, un2, hok2, rv', rfl, rfl⟩
      obtain ⟨_, _, I4, _, rfl, rfl⟩ := J2
      exact fin s2 d' free nd' ne' os2 bare2 I4 un2 hok2
    | next => exact False.elim z
    | brk => exact False.elim z
    | cont => exact False.elim z
end
end MXb
/-! The class of an error that has a dict of its own; isinstance of it. -/
namespace MXc
open PySem PySem.W PySem.Spec PySem.Calls PyProof.Rows
section
variable {prog : Program} {w : World} {A : Around} {E : Value → Shared → Prop} {s : Shared} {K : Frag} {x D : Addr} {ox : Obj} {od : Option Obj}
theorem found {C : Addr} {name : Str} {a g : Value} (c1 : (clsIn K C).isSome = true) (c2 : findIn K (.ref C) name = some (some a)) (c3 : specialIn K a "__get__" = some (some g)) (c4 : takesIn K a = some true) : findObj K C od name = some (.bind g a) := by
  obtain ⟨cd, e⟩ := Option.isSome_iff_exists.mp c1
  unfold findObj
  rw [e, Option.bind_some, c2, Option.bind_some]
  simp [c3, c4]
theorem askClass {Q : Option Value → Shared → Prop} (T : L2.ExcC K D) (X : K.In s.heap) (I : InstAt s.heap x ox D od) (go : Q (some (.ref D)) { s with toks := s.toks + 1 }) :
    wpAny (model prog w) A (getAttr? (.ref x) "__class__") Q E s := by
  have fo : findObj K D od "__class__" = some (.bind (.builtin "getset_descriptor.__get__") (.builtin "object.__class__")) :=
    found (by obtain ⟨cd, e, _⟩ := any_some T.hd; rw [e]; rfl) T.ha T.hn T.ht
  obtain ⟨hp, g, d, t, os⟩ := s
  have a0 := I.type (M := model prog w)
  have a1 := looks_findIn (M := model prog w) X T.hg
  have a2 := looks_findIn (M := model prog w) X T.hk
  have a3 := looks_find (M := model prog w) X I fo
  have below : Looks (model prog w) hp (isInstance (.ref x) (.type "BaseException")) true :=
    a0.andThen (looks_subIn X T.hs)
  have z2 : (Value.builtin "BaseException.__getattribute__" == Value.builtin "object.__getattribute__") = false := by
    decide +kernel
  have z1 : (onTheHeap (Value.ref D) && Value.builtin "BaseException.__getattribute__" == Value.builtin "object.__getattribute__") = false := by
    rw [z2]
    rfl
  have z0 : (false && onTheHeap (Value.builtin "BaseException.__getattribute__")) = false := rfl
  unfold getAttr? getAttrBy? getAttrBy
  refine wpAny_bind (wpAny_mkText (wpAny_bind (wpAny_attempt (wpAny_holding (wpAny_bind (a0.at (wpAny_bind (a1.at ?_))))))))
  show wpAny _ _ (if (onTheHeap (Value.ref D) && Value.builtin "BaseException.__getattribute__" == Value.builtin "object.__getattribute__") = true then _ else _) _ _ _
  rw [z1]
  rw [if_neg Bool.false_ne_true]
  unfold getAttrByItsOwn hookBefore
  refine wpAny_bind ?_
  rw [if_pos (show onTheHeap (Value.ref D) = true from rfl)]
  refine a2.at (wpAny_bind (wpAny_attempt (wpAny_holding ?_)))
  unfold callGetattribute
  rw [z0]
  rw [if_neg Bool.false_ne_true]
  unfold boundAndCalled
  rw [PySem.F.excAttr_ValueError.ga.bind (.ref x)]
  refine wpAny_bind (wpAny_pure ?_)
  show wpAny _ _ (call (.builtin "BaseException.__getattribute__") [.ref x, .str "__class__" t]) _ _ _
  refine wpAny_call (codeAny_call_builtin PySem.F.excAttr_ValueError.ga.plain PySem.F.entry_bexc_ga ?_)
  refine @check_slot (model prog w) _ _ ⟨hp, g, d, t + 1, os⟩ "BaseException.__getattribute__" "BaseException" "__getattribute__" (.ref x)
    [.str "__class__" t] [] _ (by decide +kernel) (by decide +kernel) below (PySem.F.args_bexc_ga (.ref x) (.str "__class__" t)) ?_
  unfold Builtin.«object.__getattribute__»
  refine wpAny_bind (wpAny_of_eq (a := ((Value.ref x : Value), [Value.str "__class__" t])) (by first | rfl | (simp only [slotArgs]; rfl)) ?_)
  refine wpAny_bind (wpAny_pure (wpAny_bind (a0.at (wpAny_bind (a3.at ?_)))))
  show wpAny _ _ (holding [Value.builtin "object.__class__"] (call (.builtin "getset_descriptor.__get__") [.builtin "object.__class__", .ref x, .ref D]) >>= ret) _ _ _
  refine wpAny_bind (wpAny_holding (wpAny_call (class_get (s := ⟨hp, g, d, t + 1, os⟩) (ox := ox) (od := od) X I T.hm (wpAny_pure ?_))))
  show wpAny _ _ (handedOut (.ref D)) _ _ _
  rw [handedOut_of (v := .ref D) rfl]
  first
    | exact wpAny_pure (wpAny_pure go)
    | exact wpAny_pure go
    | exact wpAny_pure (wpAny_bind (wpAny_pure (wpAny_pure go)))
theorem kit_err (T : L2.ExcC K D) : KitX K (.ref x) (.ref D) (fun h => InstAt h x ox D od) := by
  obtain ⟨cdD, hcD, _⟩ := any_some T.hd
  have at0 : ∃ c' d' cd' sl', K.lookup D = some ⟨c', d', .cls cd', sl'⟩ := by
    unfold clsIn at hcD
    split at hcD
    · rename_i c' d' cd' sl' ho
      exact ⟨_, _, _, _, ho⟩
    · cases hcD
  obtain ⟨c', d', cd', sl', ho⟩ := at0
  refine ⟨fun _ _ _ I => I.type, fun _ _ X _ => ?_, fun h tp dd its n sl X htp => ?_, fun X I k => askClass T X I k⟩
  · intro A' Q' E' s' k q
    unfold isType loadHead
    exact wpAny_bind (wpAny_loadPart (k _ _ (X _ _ ho)) (wpAny_pure q))
  · refine Bool.eq_false_iff.mpr fun q => ?_
    obtain rfl : D = tp := Value.ref.inj (beq_iff_eq.mp q)
    have z := (X _ _ ho).symm.trans htp
    cases z
end
end MXc
/-! Readings and rules: C(e) raised, C(e) and C(fl = e) as values, their field, a def that is handed the error of an except suite, isinstance there. -/
namespace MXd
open PySem PySem.Spec PyProof.Rows L2 MXb
abbrev St := L2.St
/-- raise C(e): the way out -/
def tMk1 (C : Addr) (fl : Str) (te : TE) : St → Hp → XK → Prop := fun σ H Q => te σ H fun v H1 => ∀ d, H1 d = none → Q (.ref C) (some d) (upd H1 d (.xd [(fl, v)]))
/-- C(e) as a value: the new error at a, its dict at d -/
def tMkV (C : Addr) (fl : Str) (te : TE) : TE := fun σ H Q => te σ H fun v H1 => ∀ a d, H1 a = none → H1 d = none → d ≠ a → Q (.ref a) (hMade H1 a d C fl v)
def tMkK (C : Addr) (fl : Str) (tk : TA) : TE := fun σ H Q => tk σ H fun vs H1 => ∃ v, vs = [v] ∧ ∀ a d, H1 a = none → H1 d = none → d ≠ a → Q (.ref a) (hMade H1 a d C fl v)
/-- e.fl, e an error that was just made -/
def tFx (K : PySem.W.Frag) (fl : Str) (te : TE) : TE := fun σ H Q => te σ H fun x H1 => ∃ (a C d : Addr) (fs : List (Str × V)) (v : V), x = .ref a ∧ XfC K C ∧ PySem.W.findIn K (.ref C) fl = some none ∧
  H1 a = some (exo a C (some d)) ∧ H1 d = some (exd d fs) ∧ fs.lookup fl = some v ∧ Q v H1
theorem made_end {H : Hp} {a d C : Addr} {fl : Str} {y : V} {o : HO} (na : H a = none) (ne : d ≠ a) : upd (del (hMade H a d C fl y) a) d o = upd H d o := by
  funext b
  by_cases hd : b = d
  · rw [hd, upd_same, upd_same]
  · rw [upd_ne hd, upd_ne hd]
    by_cases ha : b = a
    · rw [ha, del_same, na]
    · unfold hMade
      rw [del_ne ha, upd_ne ha, upd_ne hd, upd_ne ha]
theorem made_a {H : Hp} {a d C : Addr} {fl : Str} {y : V} : hMade H a d C fl y a = some (exo a C (some d)) := upd_same
theorem made_d {H : Hp} {a d C : Addr} {fl : Str} {y : V} (ne : d ≠ a) : hMade H a d C fl y d = some (exd d [(fl, y)]) := by
  unfold hMade
  rw [upd_ne ne, upd_same]
theorem made_o {H : Hp} {a d C : Addr} {fl : Str} {y : V} {b : Addr} {o : HO} (na : H a = none) (nd : H d = none) (e : H b = some o) : hMade H a d C fl y b = some o := by
  unfold hMade
  rw [upd_ne (ne_of_none e na), upd_ne (ne_of_none e nd), upd_ne (ne_of_none e na)]
  exact e
section
variable {X : Cx} {fI C : Addr} {nm fl : Str} {k : Nat} {fd : FuncData} {e : Expr} {te : TE} {tk : TA} {p pos kpos : Pos}
theorem pmk1 (T : XC X.K X.mg fI C nm fl) (F1 : FnOk X.prog X.w X.K X.mg X.base CX0 k fI fd ["self", fl] (spInit X.K fl)) (bd : Bind1 X.K fd fl) (hr : Room (k + 1) X.A) (hg : Gl X nm) (he : PE X e te)
    (hdb : (nm == ("__debug__" : Str)) = false := by decide) (hst : starEach [e] X.env = (false, eval e X.env) :: starEach [] X.env := by rfl) (hpl : (backTo pos (starEach [] X.env)).any (·.1) = false := by rfl) :
    L2N.PMk X (.Call (.Name nm p) [e] [] pos) (tMk1 C fl te) := by
  intro pins s σ H Q I h
  refine wpAny_Call_Name_kw (ld_glob I hg T.gC ?_ hdb)
  have ha : PA X [e] (tCons te tNil) := pa_cons he pa_nil hst
  refine PySem.W.callWith_K (h₀ := X.base) I.ok.mod.kin T.ox.kC (thn (ha.run pos pins s σ H (fun vs H1 => ∃ v, vs = [v] ∧ ∀ d, H1 d = none → Q (.ref C) (some d) (upd H1 d (.xd [(fl, v)])))
    I (show te σ H _ from ?_)) fun us s1 ⟨vs, H1, I1, r1, v, ev, q1⟩ => ⟨I1.kIn, ?_⟩) hst hpl
  · have imp : ∀ {Q1 Q2 : VK}, Q1 = Q2 → te σ H Q1 → te σ H Q2 := fun e z => e ▸ z
    refine imp ?_ h
    funext v H1
    exact propext ⟨fun z => ⟨v, rfl, z⟩, fun ⟨v', e', z⟩ => by cases e'; exact z⟩
  · subst ev
    obtain ⟨u, rfl, ru⟩ := r1.one
    refine run_x T F1 hr I1 ru (show 1 ≤ sizeLine by rw [sizeLine_eq]; decide) (fun s a X => bd.pos s a u X) fun s2 d na nd ne os2 bare2 I4 un2 hok2 => ?_
    obtain ⟨hp, g, dr, t, os⟩ := s1
    obtain ⟨h2, g2, d2, t2, os'⟩ := s2
    have up : ∀ b o, hp.get? b = some o → ((hp.push (PySem.W.kdv_tup [u])).push (PySem.HandSPX.excO C hp.objs.size)).get? b = some o := fun b o e =>
      Heap.get?_push_of_some _ (Heap.get?_push_of_some _ e)
    obtain ⟨t0, G, J, kG, ge, hoe, na2⟩ := mk_end0 (d2 := d2) (t2 := t2) I1 (Nat.le_succ _) up un2 hok2 os2 bare2 made_a (made_d ne) nd
    have q2 := q1 d nd
    rw [← made_end (C := C) (fl := fl) (y := v) na ne] at q2
    exact ⟨hp.objs.size + 1, _, _, ⟨G, g2, d2, t2, os'⟩, _, .ref C, some d, rfl, J, kG, ge, hoe, ⟨rfl, rfl, fun vs e => by cases e; rfl⟩, rfl, rfl, na2, rfl, bare2, raises_own T.ox.exC T.ox.tyC, q2⟩
theorem pe_mkv (T : XC X.K X.mg fI C nm fl) (F1 : FnOk X.prog X.w X.K X.mg X.base CX0 k fI fd ["self", fl] (spInit X.K fl)) (bd : Bind1 X.K fd fl) (hr : Room (k + 1) X.A) (hg : Gl X nm) (he : PE X e te)
    (hdb : (nm == ("__debug__" : Str)) = false := by decide) (hst : starEach [e] X.env = (false, eval e X.env) :: starEach [] X.env := by rfl) (hpl : (backTo pos (starEach [] X.env)).any (·.1) = false := by rfl) :
    PE X (.Call (.Name nm p) [e] [] pos) (tMkV C fl te) := by
  refine ⟨fun pins s σ H Q I h => ?_⟩
  refine wpAny_Call_Name_kw (ld_glob I hg T.gC ?_ hdb)
  have ha : PA X [e] (tCons te tNil) := pa_cons he pa_nil hst
  refine PySem.W.callWith_K (h₀ := X.base) I.ok.mod.kin T.ox.kC (thn (ha.run pos pins s σ H (fun vs H1 => ∃ v, vs = [v] ∧ ∀ a d, H1 a = none → H1 d = none → d ≠ a → Q (.ref a) (hMade H1 a d C fl v))
    I (show te σ H _ from ?_)) fun us s1 ⟨vs, H1, I1, r1, v, ev, q1⟩ => ⟨I1.kIn, ?_⟩) hst hpl
  · have imp : ∀ {Q1 Q2 : VK}, Q1 = Q2 → te σ H Q1 → te σ H Q2 := fun e z => e ▸ z
    refine imp ?_ h
    funext v H1
    exact propext ⟨fun z => ⟨v, rfl, z⟩, fun ⟨v', e', z⟩ => by cases e'; exact z⟩
  · subst ev
    obtain ⟨u, rfl, ru⟩ := r1.one
    exact run_x T F1 hr I1 ru (show 1 ≤ sizeLine by rw [sizeLine_eq]; decide) (fun s a X => bd.pos s a u X) fun s2 d na nd ne os2 bare2 I4 un2 hok2 => ⟨V.ref (s1.heap.objs.size + 1), _, I4, rfl, q1 _ d na nd ne⟩
theorem pe_mkK (T : XC X.K X.mg fI C nm fl) (F1 : FnOk X.prog X.w X.K X.mg X.base CX0 k fI fd ["self", fl] (spInit X.K fl)) (bd : Bind1 X.K fd fl) (hr : Room (k + 1) X.A) (hg : Gl X nm) {kws : List Keyword} (hk : PK X kws tk)
    (hall : (backToKw pos (keywordEach kws X.env)).all (·.1.isSome) = true := by rfl) (hks : (backToKw pos (keywordEach kws X.env)).filterMap (·.1) = [fl] := by rfl)
    (hdb : (nm == ("__debug__" : Str)) = false := by decide)
    (hpl : ((backTo pos (starEach [] X.env)).any (·.1) || (backToKw pos (keywordEach kws X.env)).any (·.1.isNone)) = false := by rfl) :
    PE X (.Call (.Name nm p) [] kws pos) (tMkK C fl tk) := by
  refine ⟨fun pins s σ H Q I h => ?_⟩
  refine wpAny_Call_Name_kw (ld_glob I hg T.gC ?_ hdb)
  refine PySem.W.callWith_KW0 (h₀ := X.base) I.ok.mod.kin T.ox.kC hall ?_ hpl
  refine thn (hk.run pos pins s σ H _ I h) fun ws s2 ⟨zs, H2, I2, rz, v, ev, q2⟩ => ⟨I2.kIn, ?_⟩
  subst ev
  obtain ⟨u, rfl, ru⟩ := rz.one
  rw [hks]
  exact run_x (ps := []) (kw := [(fl, u)]) T F1 hr I2 ru (by rw [sizeLine_eq]; decide) (fun s a X => bd.kw s a u X) fun s3 d na nd ne os2 bare2 I4 un2 hok2 => ⟨V.ref (s2.heap.objs.size + 1), _, I4, rfl, q2 _ d na nd ne⟩
theorem pe_fx (he : PE X e te) (hb : attributeBase e fl X.env (eval e X.env) = eval e X.env := by rfl) : PE X (.Attribute e fl pos) (tFx X.K fl te) := by
  refine ⟨fun pins s σ H Q I h => ?_⟩
  refine attr_of hb (thn (he.run pins s σ H _ I h) fun u s1 hh => ?_)
  obtain ⟨x, H1, I1, rx, a, C, d, fs, v, rfl, T, no, ea, ed, l, q⟩ := hh
  obtain rfl : u = Value.ref a := rx
  obtain ⟨t1, ho⟩ := exo_at I1.hok ea
  obtain ⟨mA, ns, rel⟩ := exd_at I1.hok ed
  obtain ⟨od, hod, lk⟩ := lookIn_ns ns
  obtain ⟨u, hu, ru⟩ := RelO.some_of (v := v) (o := mA fl) (by rw [← l]; exact rel fl)
  have J : PySem.W.InstAt s1.heap a { cls := .ref C, dict := some d, data := .fields #[.ref t1, .none, .none, .none, .bool false, .none] } C (some od) := ⟨ho, rfl, rfl, hod⟩
  exact HandSPX.exc_get I1.kIn J T.ga T.gg T.exC (PySem.W.findObj_own T.hdC no rfl (by rw [lk, hu])) (handed_of ru) ⟨v, H1, I1.tok _, ru, q⟩
end
end MXd
/-! A def that an except suite hands its error to. -/
namespace MXe
open PySem PySem.Spec PyProof.Rows L2 L2H
abbrev St := L2.St
/-- a pinned error of the class at C, its dict at d -/
structure ErrP (C d : Addr) (p : Addr × Obj) : Prop where
  z : Zc (.ref C) (some d) p.2
  fs : ∃ vs, p.2.data = .fields vs
/-- a def's promise where p is such an error: sp is told its place, its class, its dict -/
structure FnE (P : Program) (w : World) (K : PySem.W.Frag) (mg : Str → Option Value) (base : Heap) (k : Nat) (f : Addr) (fd : FuncData) (ps : List Str) (sp : Addr → Addr → Addr → Sp) : Prop where
  len : ∀ a C d vs H Q E, sp a C d vs H Q E → vs.length = ps.length
  run : ∀ (A : Around) (outer : List Env) (s : Shared) (H : Hp) (args : Args) (us : List Value) (vs : List V) (Q : VK) (E : XK) (p : Addr × Obj) (C d : Addr), RoomH k A → ErrP C d p → PinOk outer H s p →
    Env0 P w K mg base A outer s H → BindsTo s fd args (ps.zip us) → Vals vs us → sp p.1 C d vs H Q E → codeAny (model P w) A (.call (.ref f) args) (CR CX0 outer P w H s Q E) s
section
variable {P : Program} {w : World} {K : PySem.W.Frag} {mg : Str → Option Value} {base : Heap} {k : Nat} {f : Addr} {fd : FuncData} {N ps : List Str} {sp : Addr → Addr → Addr → Sp} {x qual : Str} {st : Stmt}
theorem _root_.L2.Fun.okE (F : Fun K x qual st f fd) (S : FnScope N ps (defScope st)) (len : ∀ a C d vs H Q E, sp a C d vs H Q E → vs.length = ps.length)
    (body : ∀ (cdv : Value) (A : Around) (outer : List Env) (s : Shared) (H : Hp) (vs : List V) (Q : VK) (E : XK) (p : Addr × Obj) (C d : Addr), ErrP C d p → RoomH k (A.deeper (envOfC qual (defScope st) s.heap.objs.size f cdv)) → sp p.1 C d vs H Q E →
      ∃ t, PSs (cxH CX0 P w K mg base N qual (defScope st) f cdv A outer s H E p) (defBody st) t ∧ t { nx := fun _ H' => Q .non H', rt := Q } (L2.start N vs) H) : FnE P w K mg base (k + 1) f fd ps sp := by
  obtain ⟨oc, od, kV, doc, pm, an, cdv, ct, osl, rfl, lk, hcd⟩ := F.ex
  constructor
  · exact len
  · intro A outer s H args us vs Q E p C d room ep pin e0 bi rel hsp
    have nl := len _ _ _ _ _ _ _ hsp
    have up : ∀ b o, base.get? b = some o → s.heap.get? b = some o := fun b o e => (e0.bs b o e).1
    have kin : K.In s.heap := e0.mod.kin.keeps up
    have kinds : ∀ y ∈ ps.zip us, (defScope st).names.lookup y.1 = some .local ∨ ((defScope st).names.lookup y.1 = some .cell ∧ ((cellsFrom (s.heap.objs.size + 1) (defScope st).names []).lookup y.1).isSome = true) := by
      rintro ⟨n, v⟩ hy
      rcases S.par n (List.of_mem_zip hy).1 with q | q
      · exact Or.inl q
      · exact Or.inr ⟨q, PySem.W.cellsFrom_some _ _ _ (Or.inl q)⟩
    refine codeAny_call_function room.depth (kin _ _ lk) rfl S.co S.gen rfl (PySem.W.codeRec_of kin hcd) (bi _ _ _ _ (wpAny_newFunctionEnv_cells S.kind kinds fun env eqv s1 ic => ?_))
    subst eqv
    obtain ⟨t, ht, hq⟩ := body cdv A outer s H vs Q E p C d ep (room.deeper _) hsp
    have J : Inv (cxH CX0 P w K mg base N qual (defScope st) f cdv A outer s H E p) [] (L2.start N vs) H s1 := inv_startH S pin e0 nl rel ic
    refine ⟨(e0.mod.nolimit.keeps up).keeps ic.toInCall.keep, codeAny_func (wpAny_mono (ht.run [] s1 (L2.start N vs) H _ J hq) (fun fl s' z => ?_) fun e s' z => z)⟩
    have done : ∀ {σ' : St} {H' : Hp} {v : V} {u : Value}, Inv (cxH CX0 P w K mg base N qual (defScope st) f cdv A outer s H E p) [] σ' H' s' → RelV v u → Q v H' → CE outer P w H s Q u s' := by
      intro σ' H' v u I r q
      exact ⟨v, H', I.os, I.bare, I.base, I.hok, r, q⟩
    match fl, z with
    | .ret u, ⟨v, σ', H', I, r, q⟩ => exact done I r q
    | .next, ⟨σ', H', I, q⟩ => exact done (v := V.non) (u := Value.none) I rfl q
    | .brk, ⟨_, _, _, q⟩ => exact False.elim q
    | .cont, ⟨_, _, _, q⟩ => exact False.elim q
end
/-- f(..) where p is at hand -/
def tCallE (sp : Addr → Addr → Addr → Sp) (a C d : Addr) (t : TA) : TE := fun σ H Q => t σ H fun vs H1 => sp a C d vs H1 Q E0
/-- isinstance(e, c), e the error at a -/
def rIsP (K : PySem.W.Frag) (a C d : Addr) : List V → Hp → VK → Prop := fun xs H Q => ExcC K C ∧ ∃ (c : V) (cv : Value) (b : Bool) (fs : List (Str × V)), xs = [.ref a, c] ∧ (∀ u, RelV c u → u = cv) ∧ PySem.W.kitOne K (.ref C) cv = some b ∧ H d = some (.xd fs) ∧ Q (.bl b) H
section
variable {X : Cx} {k : Nat} {f C d : Addr} {fd : FuncData} {ps : List Str} {sp : Addr → Addr → Addr → Sp} {x : Str} {q pos : Pos} {e : Expr} {es : List Expr} {t : TA} {p : Addr × Obj}
theorem pe_callE (F : FnE X.prog X.w X.K X.mg X.base k f fd ps sp) (hr : RoomH k X.A) (hp : p ∈ X.pn) (ep : ErrP C d p) (hg : Gl X x) (hm : X.mg x = some (.ref f)) (hk : PySem.W.keepIn X.K (.ref f) = true) (hb : Binds X.K fd ps []) (ha : PA X (e :: es) t)
    (hdb : (x == ("__debug__" : Str)) = false := by decide) (he : starEach (e :: es) X.env = (false, eval e X.env) :: starEach es X.env := by rfl) (hpl : (backTo pos (starEach es X.env)).any (·.1) = false := by rfl) :
    PE X (.Call (.Name x q) (e :: es) [] pos) (tCallE sp p.1 C d t) := by
  refine ⟨fun pins s σ H Q I h => wpAny_Call_Name_kw (ld_glob I hg hm ?_ hdb)⟩
  refine PySem.W.callWith_K (h₀ := X.base) I.ok.mod.kin hk (thn (ha.run pos pins s σ H _ I h) fun us s1 ⟨vs, H1, I1, r, z⟩ => ⟨I1.kIn, ?_⟩) he hpl
  have nl : us.length = ps.length := by
    rw [← r.length]
    exact F.len _ _ _ _ _ _ _ z
  have bb := hb s1 us I1.kIn (by rw [List.append_nil]; exact nl)
  rw [List.append_nil] at bb
  obtain ⟨p1, p2, p3, p4, p5⟩ := I1.pin p (List.mem_append_left _ hp)
  have pin : PinOk X.stack H1 s1 p := ⟨p1, p2, fun hm => (List.mem_cons.mp (I1.stkSub p.1 hm)).elim p3 p4, p5⟩
  refine wpAny_call (codeAny_mono (F.run X.A X.stack s1 H1 ⟨us, []⟩ us vs Q E0 p C d hr ep pin I1.env0 bb r z) fun r2 s2 y => ?_)
  match r2, y with
  | .ok (.ret u), y => exact I1.after y
  | .ok .next, y => exact False.elim y
  | .ok .brk, y => exact False.elim y
  | .ok .cont, y => exact False.elim y
  | .error er, y => exact False.elim y
theorem call_isP (hp : p ∈ X.pn) (ep : ErrP C d p) : CallR X (.builtin "isinstance") (rIsP X.K p.1 C d) := by
  intro pins s σ H xs us Q I r h
  obtain ⟨ec, c, cv, b, fs, rfl, hcv, e, hd, q⟩ := h
  match us, r with
  | [u0, u1], .cons r0 (.cons r1 .nil) =>
    obtain rfl : u0 = Value.ref p.1 := r0
    obtain rfl := hcv _ r1
    obtain ⟨hget, _⟩ := I.pin p (List.mem_append_left _ hp)
    obtain ⟨vs, hv⟩ := ep.fs
    have hx : ObjOk X.prog X.w H s.heap d (.xd fs) := I.hok d _ hd
    obtain ⟨mA, ns, _⟩ := hx
    obtain ⟨od, hod, _⟩ := lookIn_ns ns
    have J : PySem.W.InstAt s.heap p.1 p.2 C (some od) := by
      obtain ⟨z1, z2⟩ := ep.z
      exact ⟨hget, z1, by unfold PySem.W.notCls; rw [hv] <;> rfl, by rw [z2]; exact hod⟩
    exact PySem.W.kia_one (MXc.kit_err ec) I.kIn J e (fun z => nomatch z) fun tk => ⟨.bl b, H, I.kept (t' := tk) fun _ _ z => z, rfl, q⟩
end
end MXe
/-! xs.count(True), xs a list of bools. -/
namespace MXf
open PySem PySem.Spec PyProof.Rows L2
theorem bools_is : ∀ {bs : List Bool} {us : List Value}, Vals (bs.map V.bl) us → us = bs.map Value.bool
  | [], _, .nil => rfl
  | b :: r, _, .cons h t => by
    have e := bools_is t
    rw [e, show _ = Value.bool b from h]
    rfl
theorem count_is (k : Bool) : ∀ bs : List Bool, (bs.map Value.bool).countP (isBoolOf k) = bs.count k
  | [] => rfl
  | b :: r => by
    rw [List.map_cons, List.countP_cons, List.count_cons, count_is k r]
    rfl
/-- xs.count(k) -/
def rCntB (K : PySem.W.Frag) : V → List V → Hp → VK → Prop := fun x xs H Q => ∃ (p : Addr) (bs : List Bool) (k : Bool), x = .ref p ∧ xs = [.bl k] ∧ SqL K H p (bs.map V.bl) ∧ Q (.int (bs.count k : Nat)) H
theorem mt_countB {X : Cx} : MtR X "list.count" (rCntB X.K) := by
  intro pins s σ H x xs v us Q I rx rxs h
  obtain ⟨p, bs, k, rfl, rfl, hs, q⟩ := h
  obtain rfl : v = Value.ref p := rx
  obtain ⟨u, rfl, ru⟩ := rxs.one
  obtain rfl : u = Value.bool k := ru
  obtain ⟨its, rv, ⟨⟨cls, dd, data, sl⟩, n, ho, hc, hdn, hd⟩, hlen⟩ := I.list hs
  simp only at hc hd
  subst hc hd
  have e := bools_is rv
  subst e
  refine call_meets PySem.F.slot_list_count ⟨_, ho, rfl⟩ PySem.F.entry_list_count (PySem.F.args_list_count_2 _ _)
    (SeqAt.list_countAt p (bs.map Value.bool).toArray n dd sl (.bool k) (isBoolOf k)) ⟨ho, fun y hy => ?_, ?_⟩
  · have hy' : y ∈ bs.map Value.bool := by simpa using hy
    obtain ⟨b, _, rfl⟩ := List.mem_map.mp hy'
    exact SeqAt.EqAt.bool_bool b k
  · refine ⟨.int (bs.count k : Nat), H, I.tok _, ⟨s.toks, ?_⟩, q⟩
    show Value.int (((bs.map Value.bool).toArray.toList.countP (isBoolOf k) : Nat) : Int) s.toks = Value.int ((bs.count k : Nat) : Int) s.toks
    rw [← count_is k bs]
end MXf
/-! C(e, ..) of an own class whose __init__ may raise: the wish may speak of the caller's slots. What is never reached. -/
namespace MXg
open PySem PySem.Spec PyProof.Rows L2
abbrev St := L2.St
def tMakeS (C : Addr) (sp : Sp) (E : St → XK) (t : TA) : TE := fun σ H Q => t σ H fun vs H1 => ∀ x dx, H1 x = none → H1 dx = none → dx ≠ x →
  sp (.ref x :: vs) (upd (upd H1 dx (.own x)) x (.ins C dx [])) (fun v H2 => v = .non ∧ Q (.ref x) H2) (E σ)
section
variable {X : Cx} {CX : CXT} {k : Nat} {f C : Addr} {fd : FuncData} {ps : List Str} {sp : Sp} {E : St → XK} {x : Str} {p pos : Pos} {e : Expr} {es : List Expr} {t : TA}
theorem pe_makeS (M : Mk X.K C f) (F : FnOk X.prog X.w X.K X.mg X.base CX k f fd ps sp) (hr : Room (k + 1) X.A) (hg : Gl X x) (hm : X.mg x = some (.ref C)) (hb : Binds X.K fd ps []) (hx : ∀ σ, PassesAt CX X σ (E σ)) (ha : PA X (e :: es) t)
    (hdb : (x == ("__debug__" : Str)) = false := by decide) (he : starEach (e :: es) X.env = (false, eval e X.env) :: starEach es X.env := by rfl) (hpl : (backTo pos (starEach es X.env)).any (·.1) = false := by rfl) :
    PE X (.Call (.Name x p) (e :: es) [] pos) (tMakeS C sp E t) := by
  refine ⟨fun pins s σ H Q I h => wpAny_Call_Name_kw (ld_glob I hg hm ?_ hdb)⟩
  refine PySem.W.callWith_K (h₀ := X.base) I.ok.mod.kin M.kp (thn (ha.run pos pins s σ H _ I h) fun us s1 ⟨vs, H1, I1, r, q⟩ => ⟨I1.kIn, ?_⟩) he hpl
  have want := q (s1.heap.objs.size + 1) s1.heap.objs.size (I1.hok.fresh (Nat.le_succ _)) (I1.hok.fresh (Nat.le_refl _)) (Nat.ne_of_lt (Nat.lt_succ_self _))
  have J := Inv.made (C := C) I1
  have rr : Vals (V.ref (s1.heap.objs.size + 1) :: vs) (Value.ref (s1.heap.objs.size + 1) :: us) := .cons rfl r
  have nl : (Value.ref (s1.heap.objs.size + 1) :: us).length = ps.length := by
    rw [← rr.length]
    exact F.len _ _ _ _ want
  have bb := hb ⟨(s1.heap.push PySem.W.emptyDict).push (PySem.W.instObj C s1.heap.objs.size), s1.gens, s1.drawn, s1.toks, s1.os⟩ (Value.ref (s1.heap.objs.size + 1) :: us) J.kIn (by rw [List.append_nil]; exact nl)
  rw [List.append_nil] at bb
  refine wpAny_call (make_map (f := f) I1.kIn M.makes M.init (beq_iff_eq.mp M.fn) (codeAny_mono
    (F.run _ X.stack _ _ ⟨Value.ref (s1.heap.objs.size + 1) :: us, []⟩ _ _ _ (E σ) (hr.make C us []) (J.env0.make C us []) bb rr want) fun r2 s2 z => ?_))
  match r2, z with
  | .error er, z => exact hx σ pins _ _ er s2 J z
  | .ok (.ret u), z =>
    obtain ⟨v, H', I3, rv, ev, q3⟩ := J.after z
    subst ev
    exact ⟨rv, ⟨V.ref (s1.heap.objs.size + 1), H', I3, rfl, q3⟩⟩
  | .ok .next, z => exact False.elim z
  | .ok .brk, z => exact False.elim z
  | .ok .cont, z => exact False.elim z
/-- never reached -/
theorem pt_no {e : Expr} : PT X e (fun _ _ _ => False) := ⟨fun _ _ _ _ _ _ h => h.elim⟩
theorem pe_no {e : Expr} : PE X e (fun _ _ _ => False) := ⟨fun _ _ _ _ _ _ h => h.elim⟩
theorem pss_no {st : List Stmt} : PSs X st (fun _ _ _ => False) := ⟨fun _ _ _ _ _ _ h => h.elim⟩
end
end MXg
/-! What many laws' helpers want: powers of great ints; the creel (three ints in a list at c) and what leaves all but it. -/
namespace LK
open PySem PySem.Spec PyProof.Rows L2
abbrev St := L2.St
/-- i ** j: j not below 0, the outcome of at most 2 ^ 27 bits -/
def CPowB (i j : Int) : Prop := 0 ≤ j ∧ (Builtin.Int.intBits i : Int) * j ≤ 2 ^ 27
theorem op_powB {X : Cx} : OpR X (binaryOp .Pow) (rI CPowB fun i j => .int (i ^ j.toNat)) := opI fun _ _ _ _ _ _ _ hc q => pow_int hc.1 hc.2 q
theorem bits_small {i : Int} {n : Nat} (h : i.natAbs < 2 ^ n) (h0 : 0 < n) : Builtin.Int.intBits i ≤ n := by
  unfold Builtin.Int.intBits
  split
  · omega
  · have := PySem.Flt.log2_lt_of h0 h
    omega
/-- all that was tracked is as it was, but perhaps at c -/
def Bt (c : Addr) (H H' : Hp) : Prop := ∀ b o, b ≠ c → H b = some o → H' b = some o
theorem Bt.refl (c : Addr) (H : Hp) : Bt c H H := fun _ _ _ h => h
theorem Bt.trans {c : Addr} {H H1 H2 : Hp} (a : Bt c H H1) (b : Bt c H1 H2) : Bt c H H2 := fun x o n h => b x o n (a x o n h)
theorem Bt.of {c : Addr} {H H' : Hp} (s : Same H H') : Bt c H H' := fun b o _ h => s b o h
theorem Bt.put {c : Addr} {H : Hp} {o : HO} : Bt c H (upd H c o) := fun b u n h => by
  rw [upd_ne n]
  exact h
/-- the creel at c: three ints, none below 0, the second below 10 ^ 40, the third at most B -/
def CR (H : Hp) (c : Addr) (B : Nat) : Prop := ∃ a b n : Int, H c = some (.lst [.int a, .int b, .int n]) ∧ 0 ≤ a ∧ 0 ≤ b ∧ b < 10 ^ 40 ∧ 0 ≤ n ∧ n ≤ B
theorem CR.mono {H : Hp} {c : Addr} {B B' : Nat} (h : CR H c B) (l : B ≤ B') : CR H c B' := by
  obtain ⟨a, b, n, e, h1, h2, h3, h4, h5⟩ := h
  exact ⟨a, b, n, e, h1, h2, h3, h4, by omega⟩
theorem CR.same {H H' : Hp} {c : Addr} {B : Nat} (h : CR H c B) (s : Same H H') : CR H' c B := by
  obtain ⟨a, b, n, e, r⟩ := h
  exact ⟨a, b, n, s _ _ e, r⟩
theorem CR.ne {H : Hp} {c p : Addr} {B : Nat} {o : HO} (h : CR H c B) (e : H p = some o) (d : ∀ xs, o ≠ .lst xs) : p ≠ c := by
  obtain ⟨a, b, n, ec, _⟩ := h
  exact ne_of e ec (d _)
theorem CR.fresh {H : Hp} {c p : Addr} {B : Nat} (h : CR H c B) (n : H p = none) : c ≠ p := by
  obtain ⟨a, b, k, ec, _⟩ := h
  exact ne_of_none ec n
theorem CR.upd {H : Hp} {c p : Addr} {B : Nat} {o : HO} (h : CR H c B) (n : p ≠ c) : CR (upd H p o) c B := by
  obtain ⟨a, b, k, e, r⟩ := h
  exact ⟨a, b, k, by rw [upd_ne (Ne.symm n)]; exact e, r⟩
/-- a draw: the creel goes on, the digit lies below span -/
def spPly : Sp := fun vs H Q _ => ∃ (c : Addr) (span : Int) (B : Nat), vs = [.ref c, .int span] ∧ 0 < span ∧ span < 2 ^ 60 ∧ CR H c B ∧ B < 10 ^ 12 ∧
  ∀ (d : Int) (H' : Hp), 0 ≤ d → d < span → CR H' c (B + 1) → Bt c H H' → (∀ p, H' p = none ↔ H p = none) → Q (.int d) H'
/-- the creel of a script's cell -/
def spCreel (K : PySem.W.Frag) : Sp := fun vs H Q _ => ∃ (a : Addr) (ns : List Int) (i : Nat), vs = [.ref a, .int i] ∧ SqL K H a (ns.map V.int) ∧ i ≤ 1000 ∧ ∀ (c : Addr) (H' : Hp), H c = none → CR H' c 0 → Same H H' → Q (.ref c) H'
theorem ifT {k : Bool} {A B : Prop} (e : k = true) (h : A) : if k = true then A else B := by
  rw [if_pos e]
  exact h
theorem ifF {k : Bool} {A B : Prop} (e : k = false) (h : B) : if k = true then A else B := by
  rw [e]
  exact iteF h
theorem same_new {H : Hp} {p : Addr} {o : HO} (h : H p = none) : Same H (upd H p o) := fun b u e => by
  rw [upd_ne (ne_of_none e h)]
  exact e
theorem upd_none {H : Hp} {c p : Addr} {o o' : HO} (h : H c = some o) : upd H c o' p = none ↔ H p = none := by
  by_cases e : p = c
  · rw [e, upd_same, h]
    constructor <;> intro z <;> cases z
  · rw [upd_ne e]
/-- the built-ins that the laws and the program name -/
def blts : List Str := ["isinstance", "len", "int", "range", "ValueError", "bool", "list", "set", "enumerate", "tuple", "str", "max", "min", "abs", "sorted", "zip", "all", "sum", "any", "dict", "reversed"]
abbrev Bl (mg : Str → Option Value) : Prop := ∀ n, n ∈ blts → mg n = none
end LK
namespace T6
open PySem PySem.Spec PyProof.Rows L2 LK
abbrev St := L2.St
def top (i : Nat) : Stmt := PySem.Challenge.pw_runsdown_k26_sizes_and_places_refused.main.body.getD i (.Pass ⟨0, 0, 0, 0⟩)
abbrev sPly : Stmt := top 37
abbrev sCreel : Stmt := top 36
section
variable {P : Program} {w : World} {K : PySem.W.Frag} {mg : Str → Option Value} {base : Heap}
theorem scPly : FnScope ["creel", "span", "digit", "twine"] ["creel", "span"] (defScope sPly) := ⟨rfl, rfl, rfl, by decide +kernel, rfl, by decide +kernel, by decide +kernel⟩
theorem ok_ply {f : Addr} {fd : FuncData} (F : Fun K "_law_ply" "_law_ply" sPly f fd) (B : Bl mg) : FnOk P w K mg base CX0 1 f fd ["creel", "span"] spPly := by
  refine F.ok scPly (fun vs H Q E h => ?_) (fun cdv A outer s H vs Q E hr h => ?_)
  · obtain ⟨c, span, _, rfl, _⟩ := h
    rfl
  · obtain ⟨c, span, bb, rfl, p0, p1, ⟨a, b, n, hc, a0, b0, b1, n0, n1⟩, bB, k⟩ := h
    refine ⟨_, pss_cons (ps_if (pt_cmpR op_gt (pe_ix ix_list (pv 0) pe_int (fun _ _ => rfl)) pe_int (nomark _)) (pss_cons (ps_set (i := 2) scPly.nd rfl (Or.inl rfl) (pe_op op_mod (pe_callTy call_int1 (by rfl) (B "int" (by decide)) (by decide +kernel) (pa_cons (pe_ix ix_list (pv 0) pe_int (fun _ _ => rfl)) pa_nil)) (pv 1)))
      (pss_cons (ps_asg (pe_op op_fdivW (pe_ix ix_list (pv 0) pe_int (fun _ _ => rfl)) (pv 1)) (pg_sub (pv 0) pe_int set_list))
      (pss_one (ps_ret (pv 2))))) pss_nil)
      (pss_cons (ps_asg (pe_op op_add (pe_ix ix_list (pv 0) pe_int (fun _ _ => rfl)) pe_int) (pg_sub (pv 0) pe_int set_list))
      (pss_cons (ps_set (i := 3) scPly.nd rfl (Or.inl rfl) (pe_op op_mod (pe_op op_powB (pe_callTy call_int1 (by rfl) (B "int" (by decide)) (by decide +kernel) (pa_cons (pe_op op_add (pe_ix ix_list (pv 0) pe_int (fun _ _ => rfl)) (pe_op op_mul pe_int (pe_ix ix_list (pv 0) pe_int (fun _ _ => rfl)))) pa_nil)) pe_int) (pe_op op_add (pe_op op_pow pe_int pe_int) pe_int)))
      (pss_cons (ps_set (i := 3) scPly.nd rfl (Or.inl rfl) (pe_op op_mod (pe_op op_powB (pe_callTy call_int1 (by rfl) (B "int" (by decide)) (by decide +kernel) (pa_cons (pe_op op_add (pv 3) (pe_op op_mul pe_int (pe_ix ix_list (pv 0) pe_int (fun _ _ => rfl)))) pa_nil)) pe_int) (pe_op op_add (pe_op op_pow pe_int pe_int) pe_int)))
      (pss_one (ps_ret (pe_op op_mod (pe_op op_fdivW (pv 3) pe_int) (pv 1))))))), ?_⟩
    refine ⟨_, rfl, c, _, 0, _, rfl, rfl, SqL.of hc, atI_nat (j := 0) rfl, _, _, rfl, rfl, _, rfl, ?_⟩
    by_cases big : a > 0
    · refine LK.ifT (decide_eq_true big) ?_
      refine ⟨_, rfl, c, _, 0, _, rfl, rfl, SqL.of hc, atI_nat (j := 0) rfl, .inl ⟨_, rfl, _, rfl, _, _, rfl, rfl, p0, ?_⟩⟩
      refine ⟨_, rfl, c, _, 0, _, rfl, rfl, SqL.of hc, atI_nat (j := 0) rfl, _, rfl, _, _, rfl, rfl, wide_div (b := 60) p0 (by omega) (by decide) (by decide), ?_⟩
      refine ⟨_, rfl, c, _, _, 0, rfl, rfl, hc, rfl, ?_⟩
      exact ⟨_, rfl, k _ _ (Int.emod_nonneg _ (by omega)) (Int.emod_lt_of_pos _ p0) ⟨_, _, _, upd_same, Int.ediv_nonneg a0 (by omega), b0, b1, n0, by omega⟩ Bt.put (fun p => upd_none hc)⟩
    · refine LK.ifF (decide_eq_false big) ?_
      refine ⟨_, rfl, c, _, 2, _, rfl, rfl, SqL.of hc, atI_nat (j := 2) rfl, _, _, rfl, rfl, ?_⟩
      refine ⟨_, rfl, c, _, _, 2, rfl, rfl, hc, rfl, ?_⟩
      have hc2 : upd H c (.lst [.int a, .int b, .int (n + 1)]) c = some (.lst [.int a, .int b, .int (n + 1)]) := upd_same
      refine ⟨_, rfl, c, _, 1, _, rfl, rfl, SqL.of hc2, atI_nat (j := 1) rfl, _, rfl, c, _, 2, _, rfl, rfl, SqL.of hc2, atI_nat (j := 2) rfl, _, _, rfl, rfl, .inl ⟨by decide, by decide⟩, _, _, rfl, rfl, .inl ⟨_, rfl, ?_⟩⟩
      have m0 : 0 ≤ b + 50021 * (n + 1) := by omega
      have m1 : b + 50021 * (n + 1) < 2 ^ 140 := by
        have : (10 : Int) ^ 40 + 50021 * (10 ^ 12 + 1) < 2 ^ 140 := by decide
        omega
      have w1 := bits_small (i := b + 50021 * (n + 1)) (n := 140) (by omega) (by decide)
      refine ⟨_, _, rfl, rfl, ⟨by decide, by omega⟩, _, _, rfl, rfl, ⟨by decide, by decide, by decide⟩, _, _, rfl, rfl, _, _, rfl, rfl, (show (0 : Int) < 10 ^ 38 + 67 by decide), ?_⟩
      generalize hx : (b + 50021 * (n + 1)) ^ (2 : Int).toNat % ((10 : Int) ^ (38 : Int).toNat + 67) = x
      have x0 : 0 ≤ x := by rw [← hx]; exact Int.emod_nonneg _ (by decide)
      have x1 : x < 10 ^ 38 + 67 := by rw [← hx]; exact Int.emod_lt_of_pos _ (by decide)
      refine ⟨_, rfl, _, rfl, c, _, 2, _, rfl, rfl, SqL.of hc2, atI_nat (j := 2) rfl, _, _, rfl, rfl, .inl ⟨by decide, by decide⟩, _, _, rfl, rfl, .inl ⟨_, rfl, ?_⟩⟩
      have q0 : 0 ≤ x + 700001 * (n + 1) := by omega
      have q1 : x + 700001 * (n + 1) < 2 ^ 140 := by
        have : (10 : Int) ^ 38 + 67 + 700001 * (10 ^ 12 + 1) < 2 ^ 140 := by decide
        omega
      have w2 := bits_small (i := x + 700001 * (n + 1)) (n := 140) (by omega) (by decide)
      refine ⟨_, _, rfl, rfl, ⟨by decide, by rw [hx]; omega⟩, _, _, rfl, rfl, ⟨by decide, by decide, by decide⟩, _, _, rfl, rfl, _, _, rfl, rfl, (show (0 : Int) < 10 ^ 39 + 37 by decide), ?_⟩
      generalize hy : (x + 700001 * (n + 1)) ^ (3 : Int).toNat % ((10 : Int) ^ (39 : Int).toNat + 37) = y
      refine ⟨_, rfl, _, _, rfl, rfl, wide_div (b := 60) (by decide) (by decide) (by decide) (by decide), _, rfl, _, _, rfl, rfl, p0, ?_⟩
      exact k _ _ (Int.emod_nonneg _ (by omega)) (Int.emod_lt_of_pos _ p0) ⟨_, _, _, hc2, a0, b0, b1, by omega, by omega⟩ Bt.put (fun p => upd_none hc)
theorem scCreel : FnScope ["script", "at", "strand"] ["script", "at"] (defScope sCreel) := ⟨rfl, rfl, rfl, by decide +kernel, rfl, by decide +kernel, by decide +kernel⟩
theorem ok_creel {f : Addr} {fd : FuncData} (F : Fun K "_law_creel" "_law_creel" sCreel f fd) (B : Bl mg) : FnOk P w K mg base CX0 1 f fd ["script", "at"] (spCreel K) := by
  refine F.ok scCreel (fun vs H Q E h => ?_) (fun cdv A outer s H vs Q E hr h => ?_)
  · obtain ⟨a, ns, i, rfl, _⟩ := h
    rfl
  · obtain ⟨a, ns, i, rfl, hS, hi, k⟩ := h
    refine ⟨_, pss_cons (ps_set (i := 2) scCreel.nd rfl (Or.inl rfl) (pe_ifExp (pt_cmpR op_lt (pv 1) (pe_callB call_len_seq (by rfl) (B "len" (by decide)) (by decide +kernel) (pa_cons (pv 0) pa_nil)) (nomark _)) (pe_ix ix_list (pv 0) (pv 1) (fun _ _ => rfl)) pe_int))
      (pss_one (ps_ret (pe_lst (pa_cons (pe_callB (call_max2 rfl) (by rfl) (B "max" (by decide)) (by decide +kernel) (pa_cons pe_int (pa_cons (pe_op op_sub (pe_callB call_abs (by rfl) (B "abs" (by decide)) (by decide +kernel) (pa_cons (pv 2) pa_nil)) (pe_op op_pow pe_int pe_int)) pa_nil))) (pa_cons (pe_op op_add (pe_op op_add (pe_op op_mul (pe_op op_mod (pe_callTy call_int1 (by rfl) (B "int" (by decide)) (by decide +kernel) (pa_cons (pv 2) pa_nil)) (pe_op op_add (pe_op op_pow pe_int pe_int) pe_int)) pe_int) (pe_op op_mul pe_int (pv 1))) pe_int) (pa_cons pe_int pa_nil)))))), ?_⟩
    refine ⟨_, rfl, _, rfl, a, _, rfl, .inl hS, _, _, rfl, rfl, _, rfl, ?_⟩
    rw [List.length_map]
    have fin : ∀ z : Int, 0 ≤ (if (if z < 0 then -z else z) - 10 ^ (18 : Int).toNat > 0 then (if z < 0 then -z else z) - 10 ^ (18 : Int).toNat else 0) := fun z => by
      split <;> omega
    have m0 : ∀ z : Int, 0 ≤ z % ((10 : Int) ^ (37 : Int).toNat + 3) := fun z => Int.emod_nonneg _ (by decide)
    have m1 : ∀ z : Int, z % ((10 : Int) ^ (37 : Int).toNat + 3) < (10 : Int) ^ (37 : Int).toNat + 3 := fun z => Int.emod_lt_of_pos _ (by decide)
    have m2 : ((10 : Int) ^ (37 : Int).toNat + 3) * 71 + 60000 < 10 ^ 40 := by decide
    by_cases lt : (i : Int) < ns.length
    · refine LK.ifT (decide_eq_true lt) ?_
      obtain ⟨z, hz⟩ : ∃ z, ns[i]? = some z := ⟨ns[i]'(by omega), List.getElem?_eq_getElem (by omega)⟩
      refine ⟨_, rfl, _, rfl, a, _, (i : Int), _, rfl, rfl, hS, atI_nat (v := V.int z) (by rw [List.getElem?_map, hz]; rfl), ?_⟩
      have f0 := fin z
      have f1 := m0 z
      have f2 := m1 z
      refine ⟨_, rfl, _, rfl, _, _, rfl, rfl, ⟨by decide, by decide, by decide⟩, _, _, rfl, rfl, _, _, rfl, ?_⟩
      refine ⟨_, rfl, .inl ⟨_, rfl, _, _, rfl, rfl, ⟨by decide, by decide, by decide⟩, _, _, rfl, rfl, _, _, rfl, rfl, (show (0 : Int) < 10 ^ 37 + 3 by decide), _, _, rfl, rfl, .inr ⟨by decide, by decide⟩, _, rfl, _, _, rfl, rfl, .inl ⟨by decide, by decide⟩, _, _, rfl, rfl, _, _, rfl, rfl, ?_⟩⟩
      exact ⟨by show 3 ≤ sizeLine; decide, fun p np => k _ _ np ⟨_, _, _, upd_same, f0, by omega, by omega, by omega, by omega⟩ (same_new np)⟩
    · refine LK.ifF (decide_eq_false lt) ?_
      have f0 := fin 0
      have f1 := m0 0
      have f2 := m1 0
      refine ⟨_, rfl, _, rfl, _, _, rfl, rfl, ⟨by decide, by decide, by decide⟩, _, _, rfl, rfl, _, _, rfl, ?_⟩
      refine ⟨_, rfl, .inl ⟨_, rfl, _, _, rfl, rfl, ⟨by decide, by decide, by decide⟩, _, _, rfl, rfl, _, _, rfl, rfl, (show (0 : Int) < 10 ^ 37 + 3 by decide), _, _, rfl, rfl, .inr ⟨by decide, by decide⟩, _, rfl, _, _, rfl, rfl, .inl ⟨by decide, by decide⟩, _, _, rfl, rfl, _, _, rfl, rfl, ?_⟩⟩
      exact ⟨by show 3 ≤ sizeLine; decide, fun p np => k _ _ np ⟨_, _, _, upd_same, f0, by omega, by omega, by omega, by omega⟩ (same_new np)⟩
end
end T6
/-! What is read as data: its class, isinstance, what stays; and the compared helper's promise. -/
namespace LK
open PySem PySem.Spec PyProof.Rows L2
/-- the name of a datum's class -/
def tyN : PyData → String
  | .none => "NoneType"
  | .bool _ => "bool"
  | .int _ => "int"
  | .str _ => "str"
  | .list _ => "list"
  | .tuple _ => "tuple"
  | .dict _ => "dict"
theorem seqL_ty {K : PySem.W.Frag} {H : Hp} {a : Addr} {xs : List V} (h : SqL K H a xs) : TyX K H (.ref a) (.type "list") := by
  rcases h with (h | ⟨o, h⟩) | ⟨o, its, n, h, c, _⟩
  · exact .base (.lst h)
  · exact .base (.frz h)
  · exact .kList h c
theorem seqT_ty {K : PySem.W.Frag} {H : Hp} {a : Addr} {xs : List V} (h : SqT K H a xs) : TyX K H (.ref a) (.type "tuple") := by
  rcases h with (h | ⟨o, h⟩) | ⟨o, its, n, h, c, _⟩
  · exact .base (.tup h)
  · exact .fTuple h
  · exact .kTuple h c
theorem dp_ty {K : PySem.W.Frag} {H : Hp} {v : V} {d : PyData} (h : Dp K H v d) : TyX K H v (.type (tyN d)) := by
  cases h with
  | non => exact .base .non
  | bl b => exact .base (.bl b)
  | int i => exact .base (.int i)
  | str x => exact .base (.str x)
  | lst s _ => exact seqL_ty s
  | tup s _ => exact seqT_ty s
def isK (d : PyData) (T : String) : Bool := (kitB (tyN d) T).getD false
theorem kit_d {K : PySem.W.Frag} {H : Hp} {v : V} {d : PyData} (h : Dp K H v d) (T : String) (hT : T ∈ (["bool", "int", "str", "list", "tuple"] : List String)) : PySem.W.kitOne K (.type (tyN d)) (.type T) = some (isK d T) := by
  refine kit_ty ?_
  unfold isK
  simp only [List.mem_cons, List.not_mem_nil, or_false] at hT
  cases h <;> rcases hT with rfl | rfl | rfl | rfl | rfl <;> simp only [tyN] <;> decide +kernel
theorem kit_lt {K : PySem.W.Frag} {H : Hp} {v : V} {d : PyData} (h : Dp K H v d) : PySem.W.kitAny K (.type (tyN d)) [.type "list", .type "tuple"] = some (isK d "list" || isK d "tuple") := by
  refine kitAny_cons (kit_d h "list" (by decide)) (fun e => ?_) (fun e => by rw [e]; rfl)
  rw [e, Bool.false_or]
  refine kitAny_cons (kit_d h "tuple" (by decide)) (fun e => ?_) (fun e => e)
  rw [e]
  rfl
theorem same_tup {K : PySem.W.Frag} {H H' : Hp} {a : Addr} {xs : List V} (e : Same H H') (h : SqT K H a xs) : SqT K H' a xs := by
  rcases h with (h | ⟨o, h⟩) | h
  · exact .inl (.inl (e _ _ h))
  · exact .inl (.inr ⟨o, e _ _ h⟩)
  · exact .inr h
mutual
theorem dp_same {K : PySem.W.Frag} {H H' : Hp} (e : Same H H') : ∀ {v : V} {d : PyData}, Dp K H v d → Dp K H' v d
  | _, _, .non => .non
  | _, _, .bl b => .bl b
  | _, _, .int i => .int i
  | _, _, .str x => .str x
  | _, _, .lst s a => .lst (e.seq s) (dps_same e a)
  | _, _, .tup s a => .tup (same_tup e s) (dps_same e a)
theorem dps_same {K : PySem.W.Frag} {H H' : Hp} (e : Same H H') : ∀ {vs : List V} {ds : List PyData}, DpAll K H vs ds → DpAll K H' vs ds
  | _, _, .nil => .nil
  | _, _, .cons a r => .cons (dp_same e a) (dps_same e r)
end
/-- a list or a tuple, its items -/
theorem dp_items {K : PySem.W.Frag} {H : Hp} {v : V} {d : PyData} (h : Dp K H v d) (e : (isK d "list" || isK d "tuple") = true) : ∃ (a : Addr) (xs : List V) (ds : List PyData), v = .ref a ∧ (SqL K H a xs ∨ SqT K H a xs) ∧ DpAll K H xs ds ∧ (d = .list ds ∨ d = .tuple ds) := by
  cases h with
  | non => exact absurd e (by decide +kernel)
  | bl b => exact absurd (show (isK (.bool true) "list" || isK (.bool true) "tuple") = true from e) (by decide +kernel)
  | int i => exact absurd (show (isK (.int 0) "list" || isK (.int 0) "tuple") = true from e) (by decide +kernel)
  | str x => exact absurd (show (isK (.str "") "list" || isK (.str "") "tuple") = true from e) (by decide +kernel)
  | lst s a => exact ⟨_, _, _, rfl, .inl s, a, .inl rfl⟩
  | tup s a => exact ⟨_, _, _, rfl, .inr s, a, .inr rfl⟩
theorem dps_len {K : PySem.W.Frag} {H : Hp} : ∀ {vs : List V} {ds : List PyData}, DpAll K H vs ds → vs.length = ds.length
  | _, _, .nil => rfl
  | _, _, .cons _ r => by
    rw [List.length_cons, List.length_cons, dps_len r]
theorem dps_app {K : PySem.W.Frag} {H : Hp} : ∀ {vs us : List V} {ds es : List PyData}, DpAll K H vs ds → DpAll K H us es → DpAll K H (vs ++ us) (ds ++ es)
  | _, _, _, _, .nil, b => b
  | _, _, _, _, .cons a r, b => .cons a (dps_app r b)
theorem dps_at {K : PySem.W.Frag} {H : Hp} : ∀ {vs : List V} {ds : List PyData} {i : Nat}, DpAll K H vs ds → i < ds.length → ∃ v d, vs[i]? = some v ∧ ds[i]? = some d ∧ Dp K H v d
  | _, _, _, .nil, h => absurd h (Nat.not_lt_zero _)
  | _, _, 0, .cons a r, _ => ⟨_, _, rfl, rfl, a⟩
  | _, _, i + 1, .cons a r, h => by
    obtain ⟨v, d, h1, h2, h3⟩ := dps_at (i := i) r (Nat.lt_of_succ_lt_succ h)
    exact ⟨v, d, h1, h2, h3⟩
theorem lay_at : ∀ {ds : List PyData} {i : Nat} {d : PyData}, PyData.canLayAll0 ds = true → ds[i]? = some d → d.canLay0 = true ∧ d.depth ≤ PyData.depthAll ds
  | [], i, d, _, h => by simp at h
  | x :: r, 0, d, h, e => by
    obtain rfl : x = d := by simpa using e
    rw [PyData.canLayAll0, Bool.and_eq_true] at h
    refine ⟨h.1, ?_⟩
    simp only [PyData.depthAll]
    omega
  | x :: r, i + 1, d, h, e => by
    rw [PyData.canLayAll0, Bool.and_eq_true] at h
    obtain ⟨h1, h2⟩ := lay_at (i := i) h.2 (by simpa using e)
    refine ⟨h1, ?_⟩
    simp only [PyData.depthAll]
    omega
theorem shaped_of {d : PyData} (h : d.canLay0 = true) (n : d.depth ≤ 64) : SeqAt.shaped d = true := by
  show (d.canLay0 && decide (d.depth ≤ 64)) = true
  rw [h, decide_eq_true n]
  rfl
mutual
/-- no list or tuple of more than a million items -/
def few : PyData → Bool
  | .list xs => decide (xs.length ≤ 1000000) && fewAll xs
  | .tuple xs => decide (xs.length ≤ 1000000) && fewAll xs
  | _ => true
def fewAll : List PyData → Bool
  | [] => true
  | x :: r => few x && fewAll r
end
theorem few_at : ∀ {ds : List PyData} {i : Nat} {d : PyData}, fewAll ds = true → ds[i]? = some d → few d = true
  | [], i, d, _, h => by simp at h
  | x :: r, 0, d, h, e => by
    obtain rfl : x = d := by simpa using e
    rw [fewAll, Bool.and_eq_true] at h
    exact h.1
  | x :: r, i + 1, d, h, e => by
    rw [fewAll, Bool.and_eq_true] at h
    exact few_at (i := i) h.2 (by simpa using e)
theorem few_items {d : PyData} {ds : List PyData} (h : few d = true) (e : d = .list ds ∨ d = .tuple ds) : ds.length ≤ 1000000 ∧ fewAll ds = true := by
  rcases e with rfl | rfl <;> (unfold few at h; rw [Bool.and_eq_true] at h; exact ⟨of_decide_eq_true h.1, h.2⟩)
theorem rix_of {K : PySem.W.Frag} {H : Hp} {a : Addr} {xs : List V} {j : Nat} {i : Int} {v : V} {Q : VK} (s : SqL K H a xs ∨ SqT K H a xs) (q : xs[j]? = some v) (e : i = (j : Int)) (k : Q v H) : rIx K (.ref a) (.int i) H Q := by
  subst e
  rcases s with s | s
  · exact .inl ⟨a, xs, _, v, rfl, rfl, s, atI_nat q, k⟩
  · exact .inr (.inl ⟨a, xs, _, v, rfl, rfl, s, atI_nat q, k⟩)
theorem seq_same {K : PySem.W.Frag} {H H' : Hp} {a : Addr} {xs : List V} (e : Same H H') (s : SqL K H a xs ∨ SqT K H a xs) : SqL K H' a xs ∨ SqT K H' a xs := by
  rcases s with s | s
  · exact .inl (e.seq s)
  · exact .inr (same_tup e s)
/-- within a comprehension's block the written part must be said by its letter -/
theorem ixq {X : Cx} {K : PySem.W.Frag} (e : X.K = K := by rfl) : IxR X (rIx K) := e ▸ ix_seq
theorem ixl {X : Cx} {K : PySem.W.Frag} (e : X.K = K := by rfl) : IxR X (rIxL K) := e ▸ ix_list
theorem ixt {X : Cx} {K : PySem.W.Frag} (e : X.K = K := by rfl) : IxR X (rIxT K) := e ▸ ix_tup
/-- two things that are read as one datum match -/
def spM (K : PySem.W.Frag) (n : Nat) : Sp := fun vs H Q _ => ∃ (x y : V) (d : PyData), vs = [x, y] ∧ Dp K H x d ∧ Dp K H y d ∧ d.canLay0 = true ∧ d.depth < n ∧ d.depth ≤ 60 ∧ few d = true ∧ ∀ H', Same H H' → Q (.bl true) H'
theorem ok_never {P : Program} {w : World} {K : PySem.W.Frag} {mg : Str → Option Value} {base : Heap} {k : Nat} {f : Addr} {fd : FuncData} {ps : List Str} : FnOk P w K mg base CX0 k f fd ps (spM K 0) :=
  ⟨fun vs H Q E h => by obtain ⟨_, _, d, _, _, _, _, n, _⟩ := h; exact absurd n (Nat.not_lt_zero _), fun A outer s H args us vs Q E _ _ _ _ h => by obtain ⟨_, _, d, _, _, _, _, n, _⟩ := h; exact absurd n (Nat.not_lt_zero _)⟩
end LK
namespace T6
open PySem PySem.Spec PyProof.Rows L2 LK
abbrev sMat : Stmt := top 43
section
variable {P : Program} {w : World} {K : PySem.W.Frag} {mg : Str → Option Value} {base : Heap}
theorem scMat : FnScope ["found", "due", "k"] ["found", "due"] (defScope sMat) := ⟨rfl, rfl, rfl, by decide +kernel, rfl, by decide +kernel, by decide +kernel⟩
theorem mat_step {f : Addr} {fd : FuncData} (n : Nat) (F : Fun K "_law_matched" "_law_matched" sMat f fd) (B : Bl mg) (g_ : mg "_law_matched" = some (.ref f)) (b_ : Binds K fd ["found", "due"] []) (G : FnOk P w K mg base CX0 n f fd ["found", "due"] (spM K n)) :
    FnOk P w K mg base CX0 (n + 1) f fd ["found", "due"] (spM K (n + 1)) := by
  refine F.ok scMat (fun vs H Q E h => ?_) (fun cdv A outer s H vs Q E hr h => ?_)
  · obtain ⟨x, y, d, rfl, _⟩ := h
    rfl
  · obtain ⟨x, y, d, rfl, hx, hy, lay, dn, d60, fw, k⟩ := h
    refine ⟨_, pss_cons (ps_if (PW.pt (pw_or (pt_val (pe_callB call_isi (by rfl) (B "isinstance" (by decide)) (by decide +kernel) (pa_cons (pv 0) (pa_cons (pe_bltn (v := .ty "bool") rfl (B "bool" (by decide)) (by decide +kernel) rfl) pa_nil)))) (pw_or1 (pt_val (pe_callB call_isi (by rfl) (B "isinstance" (by decide)) (by decide +kernel) (pa_cons (pv 1) (pa_cons (pe_bltn (v := .ty "bool") rfl (B "bool" (by decide)) (by decide +kernel) rfl) pa_nil))))))) (pss_one (ps_ret (pe_and (pe_callB call_isi (by rfl) (B "isinstance" (by decide)) (by decide +kernel) (pa_cons (pv 0) (pa_cons (pe_bltn (v := .ty "bool") rfl (B "bool" (by decide)) (by decide +kernel) rfl) pa_nil))) (pe_and (pe_callB call_isi (by rfl) (B "isinstance" (by decide)) (by decide +kernel) (pa_cons (pv 1) (pa_cons (pe_bltn (v := .ty "bool") rfl (B "bool" (by decide)) (by decide +kernel) rfl) pa_nil))) (pe_one (pe_cmpR (op_eqD hr.units) (pv 0) (pv 1) (nomark _))))))) pss_nil)
      (pss_cons (ps_if (PW.pt (pw_or (pt_cmpR op_ne (pe_callB call_isi (by rfl) (B "isinstance" (by decide)) (by decide +kernel) (pa_cons (pv 0) (pa_cons (pe_bltn (v := .ty "list") rfl (B "list" (by decide)) (by decide +kernel) rfl) pa_nil))) (pe_callB call_isi (by rfl) (B "isinstance" (by decide)) (by decide +kernel) (pa_cons (pv 1) (pa_cons (pe_bltn (v := .ty "list") rfl (B "list" (by decide)) (by decide +kernel) rfl) pa_nil))) (nomark _)) (pw_or1 (pt_cmpR op_ne (pe_callB call_isi (by rfl) (B "isinstance" (by decide)) (by decide +kernel) (pa_cons (pv 0) (pa_cons (pe_bltn (v := .ty "tuple") rfl (B "tuple" (by decide)) (by decide +kernel) rfl) pa_nil))) (pe_callB call_isi (by rfl) (B "isinstance" (by decide)) (by decide +kernel) (pa_cons (pv 1) (pa_cons (pe_bltn (v := .ty "tuple") rfl (B "tuple" (by decide)) (by decide +kernel) rfl) pa_nil))) (nomark _))))) (pss_one (ps_ret pe_bl)) pss_nil)
      (pss_cons (ps_if (PW.pt (pw_or (pt_cmpR op_ne (pe_callB call_isi (by rfl) (B "isinstance" (by decide)) (by decide +kernel) (pa_cons (pv 0) (pa_cons (pe_bltn (v := .ty "str") rfl (B "str" (by decide)) (by decide +kernel) rfl) pa_nil))) (pe_callB call_isi (by rfl) (B "isinstance" (by decide)) (by decide +kernel) (pa_cons (pv 1) (pa_cons (pe_bltn (v := .ty "str") rfl (B "str" (by decide)) (by decide +kernel) rfl) pa_nil))) (nomark _)) (pw_or1 (pt_cmpR op_ne (pe_callB call_isi (by rfl) (B "isinstance" (by decide)) (by decide +kernel) (pa_cons (pv 0) (pa_cons (pe_bltn (v := .ty "int") rfl (B "int" (by decide)) (by decide +kernel) rfl) pa_nil))) (pe_callB call_isi (by rfl) (B "isinstance" (by decide)) (by decide +kernel) (pa_cons (pv 1) (pa_cons (pe_bltn (v := .ty "int") rfl (B "int" (by decide)) (by decide +kernel) rfl) pa_nil))) (nomark _))))) (pss_one (ps_ret pe_bl)) pss_nil)
      (pss_cons (ps_if (pt_val (pe_callB call_isiT (by rfl) (B "isinstance" (by decide)) (by decide +kernel) (pa_cons (pv 1) (pa_cons (pe_tup (pa_cons (pe_bltn (v := .ty "list") rfl (B "list" (by decide)) (by decide +kernel) rfl) (pa_cons (pe_bltn (v := .ty "tuple") rfl (B "tuple" (by decide)) (by decide +kernel) rfl) pa_nil))) pa_nil)))) (pss_cons (ps_if (pt_cmpR op_ne (pe_callB call_len_seq (by rfl) (B "len" (by decide)) (by decide +kernel) (pa_cons (pv 0) pa_nil)) (pe_callB call_len_seq (by rfl) (B "len" (by decide)) (by decide +kernel) (pa_cons (pv 1) pa_nil)) (nomark _)) (pss_one (ps_ret pe_bl)) pss_nil)
      (pss_one (ps_ret (pe_cmpR (op_eqD hr.units) (pe_lc (own := [("k", 2)]) (g := gName 2) rfl scMat.nd (pi_range1 (by rfl) (B "range" (by decide)) (pa_cons (pe_callB call_len_seq (by rfl) (B "len" (by decide)) (by decide +kernel) (pa_cons (pv 1) pa_nil)) pa_nil)) (blkOk_by (N := ["found", "due", "k"]) (sc := defScope sMat) (by decide +kernel)) (fun _ _ _ _ _ => pg_name (i := 2) scMat.nd rfl (Or.inl rfl)) (fun _ _ _ _ _ => pts_one (pt_not (pt_val (pe_call (E := E0) G hr rfl g_ F.kp b_ .nil pass0 (pa_cons (pe_ix (ixq (K := K)) (pv 0) (pv 2) (fun _ _ => rfl)) (pa_cons (pe_ix (ixq (K := K)) (pv 1) (pv 2) (fun _ _ => rfl)) pa_nil)))))) (fun _ _ _ _ _ => pv 2)) (pe_lst pa_nil) (nomark _))))) pss_nil)
      (pss_one (ps_ret (pe_and (pe_cmpR op_eq (pe_cmpR op_isN (pv 0) pe_non (nomark _)) (pe_cmpR op_isN (pv 1) pe_non (nomark _)) (nomark _)) (pe_one (pe_cmpR (op_eqD hr.units) (pv 0) (pv 1) (nomark _))))))))), ?_⟩
    have sh : SeqAt.shaped d = true := shaped_of lay (by omega)
    have is1 : ∀ T, T ∈ (["bool", "int", "str", "list", "tuple"] : List String) → PySem.W.kitOne K (.type (tyN d)) (.type T) = some (isK d T) := fun T hT => kit_d hx T hT
    -- bool?
    refine ⟨_, rfl, _, _, _, _, _, rfl, .ty "bool", dp_ty hx, is1 "bool" (by decide), _, rfl, ?_⟩
    by_cases e1 : isK d "bool" = true
    · refine LK.ifT e1 (LK.ifT rfl ?_)
      refine ⟨_, rfl, _, _, _, _, _, rfl, .ty "bool", dp_ty hx, is1 "bool" (by decide), _, rfl, LK.ifT e1 ?_⟩
      refine ⟨_, rfl, _, _, _, _, _, rfl, .ty "bool", dp_ty hy, is1 "bool" (by decide), _, rfl, LK.ifT e1 ?_⟩
      refine ⟨_, rfl, _, rfl, d, d, hx, hy, sh, sh, ?_⟩
      rw [SeqAt.eqv_refl d lay]
      exact k H (Same.refl H)
    have e1' : isK d "bool" = false := by simpa using e1
    refine LK.ifF e1' ?_
    refine ⟨_, rfl, _, _, _, _, _, rfl, .ty "bool", dp_ty hy, is1 "bool" (by decide), _, rfl, LK.ifF e1' ?_⟩
    -- the kinds agree
    refine ⟨_, rfl, _, _, _, _, _, rfl, .ty "list", dp_ty hx, is1 "list" (by decide), _, rfl, _, _, _, _, _, rfl, .ty "list", dp_ty hy, is1 "list" (by decide), rfl, _, rfl, LK.ifF (by simp) ?_⟩
    refine ⟨_, rfl, _, _, _, _, _, rfl, .ty "tuple", dp_ty hx, is1 "tuple" (by decide), _, rfl, _, _, _, _, _, rfl, .ty "tuple", dp_ty hy, is1 "tuple" (by decide), rfl, _, rfl, LK.ifF (by simp) ?_⟩
    refine ⟨_, rfl, _, _, _, _, _, rfl, .ty "str", dp_ty hx, is1 "str" (by decide), _, rfl, _, _, _, _, _, rfl, .ty "str", dp_ty hy, is1 "str" (by decide), rfl, _, rfl, LK.ifF (by simp) ?_⟩
    refine ⟨_, rfl, _, _, _, _, _, rfl, .ty "int", dp_ty hx, is1 "int" (by decide), _, rfl, _, _, _, _, _, rfl, .ty "int", dp_ty hy, is1 "int" (by decide), rfl, _, rfl, LK.ifF (by simp) ?_⟩
    -- a list or a tuple?
    refine ⟨_, rfl, by show 2 ≤ sizeLine; decide, fun tp ntp => ⟨_, tp, _, _, _, _, rfl, upd_same, .cons (.ty "list") (.cons (.ty "tuple") .nil), dp_ty (dp_same (same_new ntp) hy), kit_lt hy, _, rfl, ?_⟩⟩
    have s1 : Same H (upd H tp (.tup [.ty "list", .ty "tuple"])) := same_new ntp
    have hx1 := dp_same s1 hx
    have hy1 := dp_same s1 hy
    by_cases e2 : (isK d "list" || isK d "tuple") = true
    · refine LK.ifT e2 ?_
      obtain ⟨a, xs, ds, rfl, sa, da, dd⟩ := dp_items hx1 e2
      obtain ⟨b, ys, es, rfl, sb, db, de⟩ := dp_items hy1 e2
      have ee : es = ds := by
        rcases dd with rfl | rfl <;> rcases de with q | q <;> cases q <;> rfl
      subst ee
      have l1 := dps_len da
      have l2 := dps_len db
      have lay2 : PyData.canLayAll0 es = true := by
        rcases dd with rfl | rfl <;> simpa only [PyData.canLay0] using lay
      have dep : PyData.depthAll es + 1 = d.depth := by
        rcases dd with rfl | rfl <;> rfl
      refine ⟨_, rfl, a, _, rfl, sa, _, rfl, b, _, rfl, sb, rfl, _, rfl, LK.ifF (by rw [l1, l2]; simp) ?_⟩
      obtain ⟨big, fw2⟩ := few_items fw dd
      refine ⟨_, rfl, b, _, rfl, sb, (ys.length : Int), rfl, by omega, by omega, fun D nD => ?_⟩
      refine lc_range (lo := 0) (n := ys.length) (fun j H' => Same (upd H tp (.tup [.ty "list", .ty "tuple"])) H' ∧ H' D = some (.lst [])) ⟨same_new nD, upd_same⟩ (fun j H' hj hh => ⟨rfl, ?_⟩) (fun H' hh => ?_)
      · obtain ⟨s2, hD⟩ := hh
        obtain ⟨v1, d1, q1, q2, q3⟩ := dps_at (dps_same s2 da) (i := j) (by omega)
        obtain ⟨v2, d2, p1, p2, p3⟩ := dps_at (dps_same s2 db) (i := j) (by omega)
        obtain rfl : d1 = d2 := Option.some.inj (q2.symm.trans p2)
        obtain ⟨la, ld⟩ := lay_at lay2 q2
        refine ⟨_, rfl, _, rfl, rix_of (seq_same s2 sa) q1 (Int.zero_add _) ⟨_, rfl, _, rfl, rix_of (seq_same s2 sb) p1 (Int.zero_add _) ?_⟩⟩
        exact ⟨v1, v2, d1, rfl, q3, p3, la, by omega, by omega, few_at fw2 q2, fun H3 s3 => ⟨_, rfl, LK.ifF rfl ⟨s2.trans s3, s3 _ _ hD⟩⟩⟩
      · obtain ⟨s2, hD⟩ := hh
        refine ⟨by show 0 ≤ sizeLine; decide, fun q nq => ?_⟩
        have s3 : Same H' (upd H' q (.lst [])) := same_new nq
        refine ⟨_, _, .lst (SqL.of (s3 _ _ hD)) .nil, .lst (SqL.of upd_same) .nil, by decide +kernel, by decide +kernel, ?_⟩
        exact k _ ((s1.trans s2).trans s3)
    · have e2' : (isK d "list" || isK d "tuple") = false := by simpa using e2
      refine LK.ifF e2' ?_
      refine ⟨_, rfl, rfl, _, rfl, rfl, rfl, _, rfl, LK.ifT ?_ ⟨_, rfl, _, rfl, d, d, hx1, hy1, sh, sh, ?_⟩⟩
      · cases hx with
        | non => cases hy; rfl
        | bl b => cases hy; rfl
        | int i => cases hy; rfl
        | str x => cases hy; rfl
        | lst s a => exact absurd e2 (by simp [isK, tyN]; decide +kernel)
        | tup s a => exact absurd e2 (by simp [isK, tyN]; decide +kernel)
      · rw [SeqAt.eqv_refl d lay]
        exact k _ s1
end
end T6
namespace T6
open PySem PySem.Spec PyProof.Rows L2 LK
/-- a loop as it is read: its thread, its parents -/
abbrev Lp := Str × List Int
def lpD (l : Lp) : PyData := .tuple [.str l.1, .tuple (l.2.map PyData.int)]
/-- the numbers of the loops that have spot among their parents -/
def kidsOf (ls : List Lp) (spot : Int) : List Nat := (List.range ls.length).filter fun k => match ls[k]? with
  | some l => decide (spot ∈ l.2)
  | none => false
def spKids (K : PySem.W.Frag) : Sp := fun vs H Q _ => ∃ (a : Addr) (spot : Int) (xs : List V) (ls : List Lp), vs = [.ref a, .int spot] ∧ SqL K H a xs ∧ DpAll K H xs (ls.map lpD) ∧ ls.length ≤ 100000 ∧
  ∀ (H' : Hp) (p : Addr), H p = none → Same H H' → H' p = some (.lst ((kidsOf ls spot).map fun k : Nat => V.int (k : Int))) → Q (.ref p) H'
theorem inV_int (i : Int) : ∀ ns : List Int, inV (.int i) (ns.map V.int) = decide (i ∈ ns)
  | [] => by simp [inV]
  | n :: r => by
    have h := inV_int i r
    unfold inV at h ⊢
    rw [List.map_cons, List.any_cons, h]
    by_cases e : n = i
    · subst e
      simp [eqV]
    · have e' : ¬ i = n := fun z => e z.symm
      simp [eqV, e, e']
theorem flat_ints (ns : List Int) : (ns.map V.int).all flatV = true := by
  rw [List.all_map]
  exact List.all_eq_true.mpr fun _ _ => rfl
theorem dp_ints {K : PySem.W.Frag} {H : Hp} : ∀ {xs : List V} {ns : List Int}, DpAll K H xs (ns.map PyData.int) → xs = ns.map V.int
  | _, [], .nil => rfl
  | _, n :: r, .cons (.int _) t => by rw [dp_ints t]; rfl
theorem filt_more (f : Nat → Bool) (n : Nat) : (List.range (n + 1)).filter f = (List.range n).filter f ++ (if f n then [n] else []) := by
  rw [List.range_succ, List.filter_append]
  congr 1
  simp [List.filter_cons]
section
variable {P : Program} {w : World} {K : PySem.W.Frag} {mg : Str → Option Value} {base : Heap}
theorem inq {X : Cx} {K : PySem.W.Frag} (e : X.K = K := by rfl) : OpR X (compareOp .In) (rIn K false) := e ▸ op_in_seq
end
end T6
/-! Threads: the laws' letters, the words made of them. -/
namespace LK
open PySem PySem.Spec PyProof.Rows L2
def abc : Str := "abcdefghijklmnopqrstuvwxyz"
/-- the letter of number m -/
def lett (m : Nat) : Str := ⟨#[97 + m]⟩
theorem abc_len : abc.length ≤ sizeLine := by decide +kernel
theorem abc_at {i : Int} (h0 : 0 ≤ i) (h : i < 26) : atI abc.cps.toList i = some (97 + i.toNat) := by
  obtain ⟨n, rfl⟩ := Int.eq_ofNat_of_zero_le h0
  have : ∀ n < 26, atI abc.cps.toList ((n : Nat) : Int) = some (97 + n) := by decide +kernel
  exact this n (by omega)
/-- one to eight small letters -/
def Lt (z : Str) : Prop := ∀ c ∈ z.cps.toList, 97 ≤ c ∧ c ≤ 122
def Yn (z : Str) : Prop := 1 ≤ z.length ∧ z.length ≤ 8 ∧ Lt z
theorem len_app (x y : Str) : (x ++ y).length = x.length + y.length := by
  show (x ++ y).cps.size = x.cps.size + y.cps.size
  rw [PySem.Str.cps_append, Array.size_append]
theorem lt_app {x y : Str} (a : Lt x) (b : Lt y) : Lt (x ++ y) := fun c h => by
  rw [PySem.Str.cps_append, Array.toList_append, List.mem_append] at h
  exact h.elim (a c) (b c)
theorem lt_lett {m : Nat} (h : m < 26) : Lt (lett m) := fun c e => by
  have : c = 97 + m := by simpa [lett] using e
  omega
theorem len_lett (m : Nat) : (lett m).length = 1 := rfl
theorem lt_cut {z : Str} (h : Lt z) (lo hi : Option Int) : Lt (cutS z lo hi) := fun c e => by
  refine h c ?_
  unfold cutS at e
  simp only [] at e
  exact List.mem_of_mem_drop (List.mem_of_mem_take e)
theorem join_lt : ∀ (ys : List Str), (∀ y ∈ ys, Lt y) → Lt (Str.join "" ys) ∧ (Str.join "" ys).length = (ys.map (·.length)).sum
  | [], _ => ⟨fun c e => by rw [show (Str.join "" []).cps.toList = [] by decide +kernel] at e; exact absurd e List.not_mem_nil, rfl⟩
  | [y], h => ⟨h y (List.mem_cons_self ..), by simp [Str.join]⟩
  | y :: z :: r, h => by
    obtain ⟨a, b⟩ := join_lt (z :: r) fun x hx => h x (List.mem_cons_of_mem _ hx)
    have e0 : Lt ("" : Str) := fun c e => by rw [show ("" : Str).cps.toList = [] by decide +kernel] at e; exact absurd e List.not_mem_nil
    have z0 : ("" : Str).length = 0 := by decide +kernel
    refine ⟨lt_app (lt_app (h y (List.mem_cons_self ..)) e0) a, ?_⟩
    show (y ++ "" ++ Str.join "" (z :: r)).length = _
    rw [len_app, len_app, b, z0]
    simp only [List.map_cons, List.sum_cons]
    omega
theorem sum_ones : ∀ (ys : List Str), (∀ y ∈ ys, y.length = 1) → (ys.map (·.length)).sum = ys.length
  | [], _ => rfl
  | y :: r, h => by
    rw [List.map_cons, List.sum_cons, h y (List.mem_cons_self ..), sum_ones r fun x hx => h x (List.mem_cons_of_mem _ hx), List.length_cons, Nat.add_comm]
theorem join_ab (ys : List Str) (h : ∀ y ∈ ys, Lt y ∧ y.length = 1) : Lt (Txt.join "" ys) ∧ (Txt.join "" ys).length = ys.length := by
  show Lt (Builtin.Str.glued "" ys) ∧ (Builtin.Str.glued "" ys).length = _
  rw [StrLaws.glued_eq_join]
  obtain ⟨a, b⟩ := join_lt ys fun y hy => (h y hy).1
  exact ⟨a, b.trans (sum_ones ys fun y hy => (h y hy).2)⟩
theorem app_inj {m n k : Nat} (e : lett m ++ lett k = lett n ++ lett k) : m = n := by
  have e1 : (lett m ++ lett k).cps.toList = (lett n ++ lett k).cps.toList := by rw [e]
  rw [PySem.Str.cps_append, PySem.Str.cps_append, Array.toList_append, Array.toList_append] at e1
  simp [lett] at e1
  exact e1
/-- more pigeons than holes -/
theorem sub_len {α : Type} [DecidableEq α] : ∀ (xs ys : List α), xs.Nodup → (∀ x ∈ xs, x ∈ ys) → xs.length ≤ ys.length
  | [], _, _, _ => Nat.zero_le _
  | x :: r, ys, nd, h => by
    have hx := h x (List.mem_cons_self ..)
    have l := List.length_erase_of_mem hx
    have p : 0 < ys.length := List.length_pos_of_mem hx
    have nd' := List.nodup_cons.mp nd
    have := sub_len r (ys.erase x) nd'.2 fun y hy => (List.mem_erase_of_ne (fun e => nd'.1 (by rw [← e]; exact hy))).mpr (h y (List.mem_cons_of_mem _ hy))
    simp only [List.length_cons]
    omega
theorem hole {α : Type} [DecidableEq α] (xs ys : List α) (nd : xs.Nodup) (l : ys.length < xs.length) : ∃ x ∈ xs, x ∉ ys := by
  by_cases h : ∃ x ∈ xs, x ∉ ys
  · exact h
  · have := sub_len xs ys nd fun x hx => by
      by_cases e : x ∈ ys
      · exact e
      · exact absurd ⟨x, hx, e⟩ h
    omega
/-- the words that are spare -/
def spare (s k : Nat) : List Str := (List.range 26).map fun t => lett ((s + t) % 26) ++ lett k
theorem spare_nodup (s k : Nat) (h : s < 26) : (spare s k).Nodup := by
  have nd : ∀ s < 26, ((List.range 26).map fun t => (s + t) % 26).Nodup := by decide +kernel
  have e : spare s k = ((List.range 26).map fun t => (s + t) % 26).map fun m => lett m ++ lett k := by
    unfold spare
    rw [List.map_map]
    rfl
  rw [e]
  exact List.Pairwise.map _ (fun a b ne q => ne (app_inj q)) (nd s h)
theorem spare_yn {s k : Nat} (hk : k < 26) {w : Str} (h : w ∈ spare s k) : Yn w := by
  obtain ⟨t, _, rfl⟩ := List.mem_map.mp h
  refine ⟨?_, ?_, lt_app (lt_lett (Nat.mod_lt _ (by decide))) (lt_lett hk)⟩
  · rw [len_app, len_lett, len_lett]
    decide
  · rw [len_app, len_lett, len_lett]
    decide
theorem spare_free {s k : Nat} (h : s < 26) (found : List Str) (l : found.length < 26) : (spare s k).filter (fun w => decide (w ∉ found)) ≠ [] := by
  obtain ⟨w, hw, n⟩ := hole (spare s k) found (spare_nodup s k h) (by rw [spare, List.length_map, List.length_range]; exact l)
  intro e
  have : w ∈ (spare s k).filter (fun w => decide (w ∉ found)) := List.mem_filter.mpr ⟨hw, decide_eq_true n⟩
  rw [e] at this
  exact List.not_mem_nil this
theorem cut_max (z : Str) (lo hi : Option Int) : (cutS z lo hi).length ≤ HT.sIx z.length z.length hi - HT.sIx z.length 0 lo := by
  show (((z.cps.toList.drop (HT.sIx z.length 0 lo)).take (HT.sIx z.length z.length hi - HT.sIx z.length 0 lo)).toArray).size ≤ _
  rw [List.size_toArray, List.length_take]
  exact Nat.min_le_left _ _
theorem cut_seven (z : Str) : (cutS z none (some 7)).length ≤ 7 := by
  refine Nat.le_trans (cut_max z _ _) ?_
  rw [show HT.sIx z.length z.length (some 7) = min 7 z.length from HT.sIx_nat _ _ 7, HT.sIx_none]
  omega
theorem cut_last {z : Str} (h : z.length ≤ 8) : (cutS z none (some (-1))).length ≤ 7 := by
  refine Nat.le_trans (cut_max z _ _) ?_
  have : HT.sIx z.length z.length (some (-1)) = ((-1 : Int) + (z.length : Int)).toNat := rfl
  rw [this, HT.sIx_none]
  omega
theorem yn_one {y : Str} (m : Nat) (hm : m < 26) (l : y.length ≤ 7) (h : Lt y) : Yn (y ++ lett m) := by
  refine ⟨?_, ?_, lt_app h (lt_lett hm)⟩ <;> (rw [len_app, len_lett]; omega)
/-- texts of small letters are read as data -/
theorem ok_lt {z : Str} (h : Lt z) : PyData.canLay0 (.str z) = true := by
  show z.cps.all (· < 0x110000) = true
  rw [Array.all_eq_true_iff_forall_mem]
  intro c hc
  have := h c (by simpa using hc)
  exact decide_eq_true (by omega)
theorem lay_strs : ∀ ys : List Str, (∀ y ∈ ys, Lt y) → PyData.canLayAll0 (ys.map PyData.str) = true ∧ PyData.depthAll (ys.map PyData.str) ≤ 1
  | [], _ => ⟨rfl, by decide⟩
  | y :: r, h => by
    obtain ⟨a, b⟩ := lay_strs r fun x hx => h x (List.mem_cons_of_mem _ hx)
    constructor
    · rw [List.map_cons, PyData.canLayAll0, ok_lt (h y (List.mem_cons_self ..)), a]
      rfl
    · simp only [List.map_cons, PyData.depthAll, PyData.depth]
      omega
theorem dp_strs {K : PySem.W.Frag} {H : Hp} : ∀ ys : List Str, DpAll K H (ys.map V.str) (ys.map PyData.str)
  | [] => .nil
  | y :: r => .cons (.str y) (dp_strs r)
theorem sh_strs {ys : List Str} (h : ∀ y ∈ ys, Lt y) : SeqAt.shaped (.list (ys.map PyData.str)) = true := by
  obtain ⟨a, b⟩ := lay_strs ys h
  refine shaped_of (by simpa only [PyData.canLay0] using a) ?_
  simp only [PyData.depth]
  omega
theorem eqv_nil (ys : List Str) : PyData.eqv (.list (ys.map PyData.str)) (.list []) = ys.isEmpty := by
  cases ys with
  | nil => rfl
  | cons y r => rfl
theorem at_last {ys : List Str} (h : ys ≠ []) : ∃ y ∈ ys, atI (ys.map V.str) (-1) = some (.str y) := by
  refine ⟨ys.getLast h, List.getLast_mem h, ?_⟩
  have e : ys.map V.str = ys.dropLast.map V.str ++ [V.str (ys.getLast h)] := by
    have := congrArg (List.map V.str) (List.dropLast_concat_getLast h)
    rw [List.map_append] at this
    exact this.symm
  rw [e]
  exact atI_last _ _
theorem inV_str (y : Str) : ∀ ys : List Str, inV (.str y) (ys.map V.str) = decide (y ∈ ys)
  | [] => by simp [inV]
  | x :: r => by
    have h := inV_str y r
    unfold inV at h ⊢
    rw [List.map_cons, List.any_cons, h]
    by_cases e : x = y
    · subst e
      simp [eqV]
    · have e' : ¬ y = x := fun z => e z.symm
      simp [eqV, e, e']
theorem flat_strs (ys : List Str) : (ys.map V.str).all flatV = true := by
  rw [List.all_map]
  exact List.all_eq_true.mpr fun _ _ => rfl
/-- the rest, from a word that holds at its start -/
theorem seqJ {A R : TS} {D : Ends} {σ : St} {H : Hp} (J : St → Hp → Prop) (hR : ∀ σ' H', J σ' H' → R D σ' H') (h : (∀ σ' H', J σ' H' → R D σ' H') → tSeq A R D σ H) : tSeq A R D σ H := h hR
end LK
namespace T6
open PySem PySem.Spec PyProof.Rows L2 LK
abbrev sYarns : Stmt := top 38
/-- a list of texts at D -/
def Ys (H : Hp) (D : Addr) (ys : List Str) : Prop := H D = some (.lst (ys.map V.str))
/-- many threads, drawn -/
def spYarns : Sp := fun vs H Q _ => ∃ (c : Addr) (many B : Nat), vs = [.ref c, .int many] ∧ many ≤ 25 ∧ CR H c B ∧ B + 1000 < 10 ^ 12 ∧
  ∀ (D : Addr) (H' : Hp) (ys : List Str), H D = none → CR H' c (B + 1000) → Bt c H H' → Ys H' D ys → ys.length = many → (∀ y ∈ ys, Yn y) → Q (.ref D) H'
/-- what stays through the turns -/
def Wd (H Hn : Hp) (c D : Addr) (B : Nat) (ys : List Str) : Prop := c ≠ D ∧ CR Hn c B ∧ Bt c H Hn ∧ Ys Hn D ys
theorem Wd.call {H Hn H' : Hp} {c D : Addr} {B : Nat} {ys : List Str} (h : Wd H Hn c D B ys) (h1 : CR H' c (B + 1)) (bt : Bt c Hn H') : Wd H H' c D (B + 1) ys := ⟨h.1, h1, h.2.2.1.trans bt, bt _ _ h.1.symm h.2.2.2⟩
theorem Wd.new {H Hn : Hp} {c D p : Addr} {B : Nat} {ys : List Str} {o : HO} (h : Wd H Hn c D B ys) (np : Hn p = none) : Wd H (upd Hn p o) c D B ys :=
  ⟨h.1, h.2.1.same (same_new np), h.2.2.1.trans (Bt.of (same_new np)), same_new np _ _ h.2.2.2⟩
theorem Wd.gone {H Hn : Hp} {c D p : Addr} {B : Nat} {ys : List Str} (h : Wd H Hn c D B ys) (np : Hn p = none) : H p = none ∧ p ≠ c ∧ p ≠ D := by
  have pc : p ≠ c := (h.2.1.fresh np).symm
  refine ⟨?_, pc, (ne_of_none h.2.2.2 np).symm⟩
  cases e : H p with
  | none => rfl
  | some o => rw [h.2.2.1 p o pc e] at np; cases np
theorem Wd.upd {H Hn : Hp} {c D p : Addr} {B : Nat} {ys : List Str} {o : HO} (h : Wd H Hn c D B ys) (g : H p = none ∧ p ≠ c ∧ p ≠ D) : Wd H (upd Hn p o) c D B ys :=
  ⟨h.1, h.2.1.upd g.2.1, fun b u n e => by rw [upd_ne (ne_of_none e g.1)]; exact h.2.2.1 b u n e, by unfold Ys; rw [upd_ne g.2.2.symm]; exact h.2.2.2⟩
theorem Wd.mono {H Hn : Hp} {c D : Addr} {B B' : Nat} {ys : List Str} (h : Wd H Hn c D B ys) (l : B ≤ B') : Wd H Hn c D B' ys := ⟨h.1, h.2.1.mono l, h.2.2⟩
theorem Wd.app {H Hn : Hp} {c D : Addr} {B : Nat} {ys : List Str} (h : Wd H Hn c D B ys) (nD : H D = none) (y : Str) : Wd H (L2.upd Hn D (.lst (ys.map V.str ++ [V.str y]))) c D B (ys ++ [y]) :=
  ⟨h.1, h.2.1.upd h.1.symm, fun b u n e => by rw [upd_ne (ne_of_none e nD)]; exact h.2.2.1 b u n e, by unfold Ys; rw [upd_same, List.map_append]; rfl⟩
theorem pick3 {d : Int} {k : Int} (d0 : 0 ≤ d) (d1 : d < 8) (k0 : 0 ≤ k) (k1 : k < 3) : ∃ z : Int, 0 ≤ z ∧ z < 8 ∧ atI [V.int 0, .int 1, .int d] k = some (.int z) := by
  obtain rfl | rfl | rfl : k = 0 ∨ k = 1 ∨ k = 2 := by omega
  · exact ⟨0, by decide, by decide, rfl⟩
  · exact ⟨1, by decide, by decide, rfl⟩
  · exact ⟨d, d0, d1, rfl⟩
section
variable {P : Program} {w : World} {K : PySem.W.Frag} {mg : Str → Option Value} {base : Heap}
theorem scYarns : FnScope ["creel", "many", "signs", "found", "k", "size", "sign", "yarn", "spare", "turn", "word"] ["creel", "many"] (defScope sYarns) := ⟨rfl, rfl, rfl, by decide +kernel, rfl, by decide +kernel, by decide +kernel⟩
theorem ninq {X : Cx} {K : PySem.W.Frag} (e : X.K = K := by rfl) : OpR X (compareOp .NotIn) (rIn K true) := e ▸ op_notIn_seq
theorem ok_yarns {f fp : Addr} {fd fdp : FuncData} (F : Fun K "_law_yarns" "_law_yarns" sYarns f fd) (Fp : Fun K "_law_ply" "_law_ply" sPly fp fdp) (B : Bl mg) (gp : mg "_law_ply" = some (.ref fp)) (bp : Binds K fdp ["creel", "span"] []) (Gp : FnOk P w K mg base CX0 1 fp fdp ["creel", "span"] spPly) :
    FnOk P w K mg base CX0 2 f fd ["creel", "many"] spYarns := by
  refine F.ok scYarns (fun vs H Q E h => ?_) (fun cdv A outer s H vs Q E hr h => ?_)
  · obtain ⟨c, many, bb, rfl, _⟩ := h
    rfl
  · obtain ⟨c, many, bb, rfl, hm, hc, hB, k⟩ := h
    refine ⟨_, pss_cons (ps_asg (pe_tup (pa_cons pe_str (pa_cons (pe_lst pa_nil) pa_nil))) (pg_tup rfl (pgs_cons (pg_name (i := 2) scYarns.nd rfl (Or.inr rfl)) (pgs_cons (pg_name (i := 3) scYarns.nd rfl (Or.inr rfl)) pgs_nil))))
      (pss_cons (ps_for PassesOwn.never rfl (pi_range1 (by rfl) (B "range" (by decide)) (pa_cons (pv 1) pa_nil)) (pg_name (i := 4) scYarns.nd rfl (Or.inr rfl)) (pss_cons (ps_asg (pe_tup (pa_cons (pe_ix ix_list (pe_lst (pa_cons pe_int (pa_cons pe_int (pa_cons (pe_call (E := E0) Gp hr rfl gp Fp.kp bp .nil pass0 (pa_cons (pv 0) (pa_cons pe_int pa_nil))) pa_nil)))) (pe_call (E := E0) Gp hr rfl gp Fp.kp bp .nil pass0 (pa_cons (pv 0) (pa_cons pe_int pa_nil))) (fun _ _ => rfl)) (pa_cons (pe_call (E := E0) Gp hr rfl gp Fp.kp bp .nil pass0 (pa_cons (pv 0) (pa_cons pe_int pa_nil))) pa_nil))) (pg_tup rfl (pgs_cons (pg_name (i := 5) scYarns.nd rfl (Or.inl rfl)) (pgs_cons (pg_name (i := 6) scYarns.nd rfl (Or.inr rfl)) pgs_nil))))
      (pss_cons (ps_set (i := 7) scYarns.nd rfl (Or.inl rfl) (pe_op op_add_str (pe_ix ix_str (pv 2) (pv 6) (fun _ _ => rfl)) (pe_join pe_str (pe_lc (own := [("turn", 9)]) (g := gName 9) (tt := tYes) rfl scYarns.nd (pi_range1 (by rfl) (B "range" (by decide)) (pa_cons (pv 5) pa_nil)) (blkOk_by (N := ["creel", "many", "signs", "found", "k", "size", "sign", "yarn", "spare", "turn", "word"]) (sc := defScope sYarns) (by decide +kernel)) (fun _ _ _ _ _ => pg_name (i := 9) scYarns.nd rfl (Or.inl rfl)) (fun _ _ _ _ _ => pts_nil) (fun _ _ _ _ _ => pe_ix ix_str (pv 2) (pe_call (E := E0) Gp hr rfl gp Fp.kp bp .nil pass0 (pa_cons (pv 0) (pa_cons pe_int pa_nil))) (fun _ _ => rfl))))))
      (pss_cons (ps_if (PW.pt (pw_and (pt_cmpR (op_neD hr.units) (pv 3) (pe_lst pa_nil) (nomark _)) (pw_and1 (pt_cmpR op_eq (pe_call (E := E0) Gp hr rfl gp Fp.kp bp .nil pass0 (pa_cons (pv 0) (pa_cons pe_int pa_nil))) pe_int (nomark _))))) (pss_one (ps_set (i := 7) scYarns.nd rfl (Or.inl rfl) (pe_ix ix_list (pe_lst (pa_cons (pe_op op_add_str (pe_slice sl_str (pe_ix ix_list (pv 3) (pe_un un_neg pe_int) (fun _ _ => rfl)) po_none (po_some pe_int)) (pe_ix ix_str (pv 2) (pv 6) (fun _ _ => rfl))) (pa_cons (pe_op op_add_str (pe_slice sl_str (pe_ix ix_list (pv 3) (pe_un un_neg pe_int) (fun _ _ => rfl)) po_none (po_some (pe_un un_neg pe_int))) (pe_ix ix_str (pv 2) (pv 6) (fun _ _ => rfl))) pa_nil))) (pe_call (E := E0) Gp hr rfl gp Fp.kp bp .nil pass0 (pa_cons (pv 0) (pa_cons pe_int pa_nil))) (fun _ _ => rfl)))) pss_nil)
      (pss_cons (ps_setLc (i := 8) (own := [("turn", 9)]) (g := gName 9) (tt := tYes) rfl scYarns.nd rfl rfl (sw_true rfl rfl rfl (by decide +kernel)) (pi_range1 (by rfl) (B "range" (by decide)) (pa_cons pe_int pa_nil)) (blkOk_by (N := ["creel", "many", "signs", "found", "k", "size", "sign", "yarn", "spare", "turn", "word"]) (sc := defScope sYarns) (by decide +kernel)) (fun _ _ _ _ _ => pg_name (i := 9) scYarns.nd rfl (Or.inl rfl)) (fun _ _ _ _ _ => pts_nil) (fun _ _ _ _ _ => pe_op op_add_str (pe_ix ix_str (pv 2) (pe_op op_mod (pe_op op_add (pv 6) (pv 9)) pe_int) (fun _ _ => rfl)) (pe_ix ix_str (pv 2) (pv 4) (fun _ _ => rfl))))
      (pss_one (ps_expr (pe_bm PySem.F.plainAttrs_list PySem.F.slot_list_append PySem.F.type_list_append mt_append (pv 3) (pa_cons (pe_ifExp (pt_cmpR op_notIn_seq (pv 7) (pv 3) (by rfl)) (pv 7) (pe_ix ix_list (pe_lc (own := [("word", 10)]) (g := gName 10) rfl scYarns.nd (pi_list (pv 8)) (blkOk_by (N := ["creel", "many", "signs", "found", "k", "size", "sign", "yarn", "spare", "turn", "word"]) (sc := defScope sYarns) (by decide +kernel)) (fun _ _ _ _ _ => pg_name (i := 10) scYarns.nd rfl (Or.inl rfl)) (fun _ _ _ _ _ => pts_one (pt_cmpR (ninq (K := K)) (pv 10) (pv 3) (by rfl))) (fun _ _ _ _ _ => pv 10)) pe_int (fun _ _ => rfl))) pa_nil)))))))))
      (pss_one (ps_ret (pv 3)))), ?_⟩
    refine ⟨(by show 0 ≤ sizeLine; decide), fun D nD => ⟨(by show 2 ≤ sizeLine; decide), fun T nT => ⟨T, _, rfl, .inl (.inl upd_same), rfl, _, _, rfl, _, _, rfl, rfl, ?_⟩⟩⟩
    have cD : c ≠ D := hc.fresh nD
    have cT : c ≠ T := by
      intro e
      subst e
      obtain ⟨_, _, _, e, _⟩ := hc
      rw [upd_ne cD, e] at nT
      cases nT
    have DT : D ≠ T := by
      intro e
      subst e
      rw [upd_same] at nT
      cases nT
    refine ⟨_, rfl, (many : Int), rfl, by omega, by omega, ?_⟩
    refine for_range (lo := 0) (n := many) (fun i σ H' => ∃ (ys : List Str) (o4 o5 o6 o7 o8 : Option V), σ = [some (.ref c), some (.int many), some (.str abc), some (.ref D), o4, o5, o6, o7, o8, none, none] ∧ ys.length = i ∧ (∀ y ∈ ys, Yn y) ∧ Wd H H' c D (bb + 40 * i) ys)
      ⟨[], _, _, _, _, _, rfl, rfl, fun y h => absurd h List.not_mem_nil, cD, (hc.upd cD.symm).upd cT.symm, fun b o _ e => same_new nT _ _ (same_new nD _ _ e), by unfold Ys; rw [upd_ne DT, upd_same]; rfl⟩ (fun i σ H1 hi hI => ?_) (fun σ H1 hI => ?_)
    · obtain ⟨ys, o4, o5, o6, o7, o8, rfl, hl, hn, hw⟩ := hI
      refine ⟨_, rfl, c, 8, _, rfl, by decide, by decide, hw.2.1, by omega, fun d1 H2 d10 d11 h2 b2 n2 => ?_⟩
      have hw2 := hw.call h2 b2
      refine ⟨(by show 3 ≤ sizeLine; decide), fun L nL => ?_⟩
      have hw3 := hw2.new (o := .lst [.int 0, .int 1, .int d1]) nL
      refine ⟨_, rfl, c, 3, _, rfl, by decide, by decide, hw3.2.1, by omega, fun d3 H3 d30 d31 h3 b3 n3 => ?_⟩
      have hw4 := hw3.call h3 b3
      have hL : H3 L = some (.lst [.int 0, .int 1, .int d1]) := b3 _ _ (hw2.2.1.fresh nL).symm upd_same
      obtain ⟨z, z0, z1, hz⟩ := pick3 d10 d11 d30 d31
      refine ⟨L, _, _, _, rfl, rfl, SqL.of hL, hz, ?_⟩
      refine ⟨_, rfl, c, 26, _, rfl, by decide, by decide, hw4.2.1, by omega, fun d4 H4 d40 d41 h4 b4 n4 => ?_⟩
      have hw5 := hw4.call h4 b4
      refine ⟨(by show 2 ≤ sizeLine; decide), fun T2 nT2 => ⟨T2, _, rfl, .inl (.inl upd_same), rfl, _, _, rfl, _, _, rfl, rfl, ?_⟩⟩
      have hw6 := hw5.new (o := .tup [.int z, .int d4]) nT2
      refine ⟨_, rfl, _, rfl, abc, d4, _, rfl, rfl, abc_len, abc_at d40 d41, ?_⟩
      refine ⟨⟨_, rfl⟩, _, rfl, z, rfl, by omega, by omega, fun G nG => ?_⟩
      have gG := hw6.gone nG
      refine lc_range (lo := 0) (n := z.toNat) (fun j H' => ∃ zs : List Str, H' G = some (.lst (zs.map V.str)) ∧ zs.length = j ∧ (∀ y ∈ zs, Lt y ∧ y.length = 1) ∧ Wd H H' c D (bb + 40 * i + 3 + j) ys) ⟨[], upd_same, rfl, fun y h => absurd h List.not_mem_nil, hw6.upd gG⟩ (fun j H' hj hh => ⟨rfl, ?_⟩) (fun H' hh => ?_)
      · obtain ⟨zs, hG, hzl, hzs, hw7⟩ := hh
        refine ⟨_, rfl, _, rfl, c, 26, _, rfl, by decide, by decide, hw7.2.1, by omega, fun d5 H5 d50 d51 h5 b5 n5 => ?_⟩
        refine ⟨abc, d5, _, rfl, rfl, abc_len, abc_at d50 d51, _, b5 _ _ gG.2.1 hG, ?_, zs ++ [lett d5.toNat], ?_, ?_, ?_, ?_⟩
        · rw [List.length_map, hzl]
          have : j < 8 := by omega
          exact Nat.lt_of_lt_of_le this (by decide)
        · rw [upd_same, List.map_append]
          rfl
        · rw [List.length_append, hzl]
          rfl
        · intro y hy
          rcases List.mem_append.mp hy with hy | hy
          · exact hzs y hy
          · obtain rfl := List.mem_singleton.mp hy
            exact ⟨lt_lett (by omega), rfl⟩
        · exact (hw7.call h5 b5).upd gG
      · obtain ⟨zs, hG, hzl, hzs, hw7⟩ := hh
        obtain ⟨jl, jn⟩ := join_ab zs hzs
        have y1 : Yn (lett d4.toNat ++ Txt.join "" zs) := by
          refine ⟨?_, ?_, lt_app (lt_lett (by omega)) jl⟩
          · rw [len_app, jn, hzl, len_lett]
            omega
          · rw [len_app, jn, hzl, len_lett]
            omega
        have s1 := sum_ones zs fun y hy => (hzs y hy).2
        refine ⟨_, _, zs, rfl, rfl, .inl (SqL.of hG), ?_, _, _, rfl, rfl, ?_, ?_⟩
        · rw [s1, hzl]
          have : ("" : Str).length = 0 := by decide +kernel
          rw [this]
          omega
        · rw [jn, hzl]
          have : (lett d4.toNat).length + z.toNat ≤ 8 := by
            rw [len_lett]
            omega
          exact Nat.le_trans this (by decide)
        have hw8 := hw7.mono (B' := bb + 40 * i + 10) (by omega)
        have d4n : d4.toNat < 26 := by omega
        dsimp only [gName]
        refine seqJ (fun σ' H' => ∃ y : Str, σ' = [some (.ref c), some (.int many), some (.str abc), some (.ref D), some (.int (0 + (i : Int))), some (.int z), some (.int d4), some (.str y), o8, none, none] ∧ Yn y ∧ Wd H H' c D (bb + 40 * i + 12) ys) (fun σ' H8 hJ => ?_) (fun go => ?_)
        · obtain ⟨y, rfl, hy, hw9⟩ := hJ
          -- the spare words
          have iz : (0 + (i : Int)) = (i : Int) := Int.zero_add _
          refine ⟨26, rfl, by decide, by decide, fun S nS => ?_⟩
          have gS := hw9.gone nS
          refine lc_range (lo := 0) (n := 26) (fun j H' => H' S = some (.lst (((List.range j).map fun t => lett ((d4.toNat + t) % 26) ++ lett i).map V.str)) ∧ Wd H H' c D (bb + 40 * i + 12) ys) ⟨upd_same, hw9.upd gS⟩ (fun j H' hj hh => ⟨rfl, ?_⟩) (fun H' hh => ?_)
          · obtain ⟨hS, hwe⟩ := hh
            have m0 : 0 ≤ (d4 + (0 + (j : Int))) % 26 := Int.emod_nonneg _ (by decide)
            have m1 : (d4 + (0 + (j : Int))) % 26 < 26 := Int.emod_lt_of_pos _ (by decide)
            have m2 : ((d4 + (0 + (j : Int))) % 26).toNat = (d4.toNat + j) % 26 := by omega
            refine ⟨_, rfl, _, rfl, _, rfl, d4, _, rfl, rfl, _, _, rfl, rfl, (show (0 : Int) < 26 by decide), abc, _, _, rfl, rfl, abc_len, abc_at m0 m1, ?_⟩
            refine ⟨_, rfl, _, rfl, abc, (0 + (i : Int)), _, rfl, rfl, abc_len, abc_at (by omega) (by omega), _, _, rfl, rfl, ?_, _, hS, ?_, ?_, hwe.upd gS⟩
            · show 1 + 1 ≤ sizeLine
              decide
            · rw [List.length_map, List.length_map, List.length_range]
              exact Nat.lt_trans hj (by decide)
            · rw [upd_same, List.range_succ, List.map_append, List.map_append, m2]
              have : (0 + (i : Int)).toNat = i := by omega
              rw [this]
              rfl
          · obtain ⟨hS, hwe⟩ := hh
            have hS' : H' S = some (.lst ((spare d4.toNat i).map V.str)) := hS
            refine ⟨_, rfl, .inl ⟨rfl, _, SqL.of hwe.2.2.2⟩, _, rfl, _, rfl, D, _, rfl, .inl (SqL.of hwe.2.2.2), rfl, LK.flat_strs ys, _, rfl, ?_⟩
            have yl : (ys.map V.str).length < sizeLine := by
              rw [List.length_map, hl]
              exact Nat.lt_of_lt_of_le (by omega : i < 100) (by decide)
            show if (!inV (.str y) (ys.map V.str)) = true then _ else _
            rw [inV_str]
            by_cases hin : y ∈ ys
            · rw [decide_eq_true hin]
              refine LK.ifF rfl ?_
              refine ⟨_, rfl, S, rfl, ⟨_, SqL.of hS'⟩, fun G2 nG2 => ?_⟩
              have gG2 := hwe.gone nG2
              have sG2 : S ≠ G2 := ne_of_none hS' nG2
              refine lc_list (K := K) (a := S) (xs := (spare d4.toNat i).map V.str) (fun j H' => H' G2 = some (.lst ((((spare d4.toNat i).take j).filter fun w => decide (w ∉ ys)).map V.str)) ∧ H' S = some (.lst ((spare d4.toNat i).map V.str)) ∧ Wd H H' c D (bb + 40 * i + 12) ys)
                ⟨upd_same, by rw [upd_ne sG2]; exact hS', hwe.upd gG2⟩ (fun j H' hj hh => SqL.of hh.2.1) (fun j x H' hx hh => ⟨rfl, ?_⟩) (fun H' hh => ?_)
              · obtain ⟨h1, h2, h3⟩ := hh
                rw [List.getElem?_map] at hx
                obtain ⟨w1, hw1, rfl⟩ := Option.map_eq_some_iff.mp hx
                refine ⟨_, rfl, _, rfl, D, _, rfl, .inl (SqL.of h3.2.2.2), rfl, LK.flat_strs ys, _, rfl, ?_⟩
                show if (!inV (.str w1) (ys.map V.str)) = true then _ else _
                have tk : (spare d4.toNat i).take (j + 1) = (spare d4.toNat i).take j ++ [w1] := by
                  rw [List.take_succ, hw1]
                  rfl
                rw [inV_str, tk, List.filter_append]
                by_cases hin1 : w1 ∈ ys
                · rw [decide_eq_true hin1]
                  refine LK.ifF rfl ⟨?_, h2, h3⟩
                  rw [h1]
                  simp [hin1]
                · rw [decide_eq_false hin1]
                  refine LK.ifT rfl ⟨_, rfl, _, h1, ?_, ?_, ?_, h3.upd gG2⟩
                  · rw [List.length_map]
                    have z1 := List.length_filter_le (fun w => decide (w ∉ ys)) ((spare d4.toNat i).take j)
                    have z2 : ((spare d4.toNat i).take j).length ≤ 26 := by
                      rw [List.length_take]
                      have : (spare d4.toNat i).length = 26 := by rw [spare, List.length_map, List.length_range]
                      omega
                    exact Nat.lt_of_le_of_lt (Nat.le_trans z1 z2) (by decide)
                  · rw [upd_same]
                    simp [hin1]
                  · rw [upd_ne sG2]
                    exact h2
              · obtain ⟨h1, h2, h3⟩ := hh
                have full : (spare d4.toNat i).take ((spare d4.toNat i).map V.str).length = spare d4.toNat i := by
                  rw [List.length_map, List.take_length]
                rw [full] at h1
                have fr := spare_free (s := d4.toNat) (k := i) d4n ys (by omega)
                obtain ⟨w1, ws, hws⟩ : ∃ w1 ws, (spare d4.toNat i).filter (fun w => decide (w ∉ ys)) = w1 :: ws := by
                  cases e : (spare d4.toNat i).filter (fun w => decide (w ∉ ys)) with
                  | nil => exact absurd e fr
                  | cons a b => exact ⟨a, b, rfl⟩
                have wm : w1 ∈ spare d4.toNat i := (List.mem_filter.mp (hws ▸ List.mem_cons_self .. : w1 ∈ (spare d4.toNat i).filter (fun w => decide (w ∉ ys)))).1
                rw [hws] at h1
                refine ⟨G2, _, 0, _, rfl, rfl, SqL.of h1, atI_nat (j := 0) rfl, D, _, _, rfl, rfl, h3.2.2.2, yl, ys ++ [w1], _, _, _, _, _, rfl, ?_, ?_, (h3.app nD w1).mono (by omega)⟩
                · rw [List.length_append, hl]
                  rfl
                · intro q hq
                  rcases List.mem_append.mp hq with hq | hq
                  · exact hn q hq
                  · obtain rfl := List.mem_singleton.mp hq
                    exact spare_yn (by omega) wm
            · rw [decide_eq_false hin]
              refine LK.ifT rfl ⟨_, rfl, D, _, _, rfl, rfl, hwe.2.2.2, yl, ys ++ [y], _, _, _, _, _, rfl, ?_, ?_, (hwe.app nD y).mono (by omega)⟩
              · rw [List.length_append, hl]
                rfl
              · intro q hq
                rcases List.mem_append.mp hq with hq | hq
                · exact hn q hq
                · obtain rfl := List.mem_singleton.mp hq
                  exact hy
        · refine ⟨_, rfl, (by show 0 ≤ sizeLine; decide), fun E1 nE => ?_⟩
          have hwa := hw8.new (o := .lst []) nE
          refine ⟨.list (ys.map PyData.str), .list [], .lst (SqL.of hwa.2.2.2) (dp_strs ys), .lst (SqL.of upd_same) .nil, sh_strs fun y hy => (hn y hy).2.2, by decide, _, rfl, ?_⟩
          rw [eqv_nil]
          by_cases em : ys = []
          · subst em
            refine LK.ifF rfl (LK.ifF rfl ?_)
            exact go _ _ ⟨_, rfl, y1, hwa.mono (by omega)⟩
          refine LK.ifT (by cases ys with | nil => exact absurd rfl em | cons _ _ => rfl) ?_
          refine ⟨_, rfl, c, 3, _, rfl, by decide, by decide, hwa.2.1, by omega, fun d6 H6 d60 d61 h6 b6 n6 => ⟨rfl, _, rfl, ?_⟩⟩
          have hwb := hwa.call h6 b6
          by_cases e0 : V.int d6 = V.int 0
          · refine LK.ifT (decide_eq_true e0) ?_
            obtain ⟨y0, hy0, at0⟩ := at_last em
            obtain ⟨q1, q2, q3⟩ := hn y0 hy0
            have sz : sizeLine ≥ 100 := by decide
            have c7 := cut_seven y0
            have c8 := cut_last q2
            have a1 := yn_one d4.toNat d4n c7 (lt_cut q3 none (some 7))
            have a2 := yn_one d4.toNat d4n c8 (lt_cut q3 none (some (-1)))
            refine ⟨_, rfl, 1, rfl, D, _, -1, _, rfl, rfl, SqL.of hwb.2.2.2, at0, 7, rfl, y0, rfl, by omega, ?_⟩
            refine ⟨_, rfl, _, rfl, abc, d4, _, rfl, rfl, abc_len, abc_at d40 d41, _, _, rfl, rfl, ?_, ?_⟩
            · show (cutS y0 none (some 7)).length + 1 ≤ sizeLine
              omega
            refine ⟨_, rfl, 1, rfl, D, _, -1, _, rfl, rfl, SqL.of hwb.2.2.2, at0, 1, rfl, _, rfl, y0, rfl, by omega, ?_⟩
            refine ⟨_, rfl, _, rfl, abc, d4, _, rfl, rfl, abc_len, abc_at d40 d41, _, _, rfl, rfl, ?_, ?_⟩
            · show (cutS y0 none (some (-1))).length + 1 ≤ sizeLine
              omega
            refine ⟨(by show 2 ≤ sizeLine; decide), fun L2 nL2 => ?_⟩
            have hwc := hwb.new (o := .lst [.str (cutS y0 none (some 7) ++ lett d4.toNat), .str (cutS y0 none (some (-1)) ++ lett d4.toNat)]) nL2
            refine ⟨_, rfl, c, 2, _, rfl, by decide, by decide, hwc.2.1, by omega, fun d7 H7 d70 d71 h7 b7 n7 => ?_⟩
            have hwd := hwc.call h7 b7
            have hL2 := b7 _ _ (hwb.2.1.fresh nL2).symm (upd_same (H := H6) (o := .lst [.str (cutS y0 none (some 7) ++ lett d4.toNat), .str (cutS y0 none (some (-1)) ++ lett d4.toNat)]))
            obtain rfl | rfl : d7 = 0 ∨ d7 = 1 := by omega
            · exact ⟨L2, _, 0, _, rfl, rfl, SqL.of hL2, rfl, go _ _ ⟨_, rfl, a1, hwd.mono (by omega)⟩⟩
            · exact ⟨L2, _, 1, _, rfl, rfl, SqL.of hL2, rfl, go _ _ ⟨_, rfl, a2, hwd.mono (by omega)⟩⟩
          · refine LK.ifF (decide_eq_false e0) ?_
            exact go _ _ ⟨_, rfl, y1, hwb.mono (by omega)⟩
    · obtain ⟨ys, o4, o5, o6, o7, o8, rfl, hl, hn, hw⟩ := hI
      exact ⟨_, rfl, k D H1 ys nD (hw.2.1.mono (by omega)) hw.2.2.1 hw.2.2.2 hl hn⟩
end
end T6
namespace T6
open PySem PySem.Spec PyProof.Rows L2 LK
/-- what is no list stays -/
def Tk (H H' : Hp) : Prop := ∀ b o, (∀ xs, o ≠ .lst xs) → H b = some o → H' b = some o
theorem Tk.bt {c : Addr} {H H' : Hp} {B : Nat} (h : CR H c B) (b : Bt c H H') : Tk H H' := fun x o no e => b x o (h.ne e no) e
theorem Tk.same {H H' : Hp} (s : Same H H') : Tk H H' := fun x o _ e => s x o e
theorem Tk.own {H : Hp} {p : Addr} {xs : List V} {o : HO} (h : H p = some (.lst xs)) : Tk H (upd H p o) := fun x u no e => by
  rw [upd_ne (ne_of e h (no _))]
  exact e
theorem Tk.trans {H H1 H2 : Hp} (a : Tk H H1) (b : Tk H1 H2) : Tk H H2 := fun x o n e => b x o n (a x o n e)
theorem sqT_tk {K : PySem.W.Frag} {H H' : Hp} {a : Addr} {xs : List V} (e : Tk H H') (h : SqT K H a xs) : SqT K H' a xs := by
  rcases h with (h | ⟨o, h⟩) | h
  · exact .inl (.inl (e _ _ (fun _ q => by cases q) h))
  · exact .inl (.inr ⟨o, e _ _ (fun _ q => by cases q) h⟩)
  · exact .inr h
theorem dp_tk_ints {K : PySem.W.Frag} {H H' : Hp} : ∀ {xs : List V} {ns : List Int}, DpAll K H xs (ns.map PyData.int) → DpAll K H' xs (ns.map PyData.int)
  | _, [], .nil => .nil
  | _, n :: r, .cons (.int _) t => .cons (.int _) (dp_tk_ints t)
theorem dp_ints_of {K : PySem.W.Frag} {H : Hp} : ∀ ns : List Int, DpAll K H (ns.map V.int) (ns.map PyData.int)
  | [] => .nil
  | n :: r => .cons (.int n) (dp_ints_of r)
theorem lp_tk {K : PySem.W.Frag} {H H' : Hp} (e : Tk H H') {x : V} {l : Lp} (h : Dp K H x (lpD l)) : Dp K H' x (lpD l) := by
  cases h with
  | tup s a =>
    cases a with
    | cons d1 a =>
      cases d1
      cases a with
      | cons d2 dn =>
        cases dn
        cases d2 with
        | tup s2 a2 => exact .tup (sqT_tk e s) (.cons (.str _) (.cons (.tup (sqT_tk e s2) (dp_tk_ints a2)) .nil))
theorem lps_tk {K : PySem.W.Frag} {H H' : Hp} (e : Tk H H') : ∀ {xs : List V} {ls : List Lp}, DpAll K H xs (ls.map lpD) → DpAll K H' xs (ls.map lpD)
  | _, [], .nil => .nil
  | _, _ :: _, .cons a r => .cons (lp_tk e a) (lps_tk e r)
/-- the loops under way: the list at L -/
def Wa (K : PySem.W.Frag) (H Hn : Hp) (c L : Addr) (B : Nat) (ls : List Lp) (xs : List V) : Prop := c ≠ L ∧ CR Hn c B ∧ Bt c H Hn ∧ Hn L = some (.lst xs) ∧ DpAll K Hn xs (ls.map lpD)
theorem Wa.call {K : PySem.W.Frag} {H Hn H' : Hp} {c L : Addr} {B : Nat} {ls : List Lp} {xs : List V} (h : Wa K H Hn c L B ls xs) (h1 : CR H' c (B + 1)) (bt : Bt c Hn H') : Wa K H H' c L (B + 1) ls xs :=
  ⟨h.1, h1, h.2.2.1.trans bt, bt _ _ h.1.symm h.2.2.2.1, lps_tk (Tk.bt h.2.1 bt) h.2.2.2.2⟩
theorem Wa.new {K : PySem.W.Frag} {H Hn : Hp} {c L p : Addr} {B : Nat} {ls : List Lp} {xs : List V} {o : HO} (h : Wa K H Hn c L B ls xs) (np : Hn p = none) : Wa K H (upd Hn p o) c L B ls xs :=
  ⟨h.1, h.2.1.same (same_new np), h.2.2.1.trans (Bt.of (same_new np)), same_new np _ _ h.2.2.2.1, lps_tk (Tk.same (same_new np)) h.2.2.2.2⟩
theorem Wa.same {K : PySem.W.Frag} {H Hn H' : Hp} {c L : Addr} {B : Nat} {ls : List Lp} {xs : List V} (h : Wa K H Hn c L B ls xs) (s : Same Hn H') : Wa K H H' c L B ls xs :=
  ⟨h.1, h.2.1.same s, h.2.2.1.trans (Bt.of s), s _ _ h.2.2.2.1, lps_tk (Tk.same s) h.2.2.2.2⟩
theorem Wa.gone {K : PySem.W.Frag} {H Hn : Hp} {c L p : Addr} {B : Nat} {ls : List Lp} {xs : List V} (h : Wa K H Hn c L B ls xs) (np : Hn p = none) : H p = none ∧ p ≠ c ∧ p ≠ L := by
  have pc : p ≠ c := (h.2.1.fresh np).symm
  refine ⟨?_, pc, (ne_of_none h.2.2.2.1 np).symm⟩
  cases e : H p with
  | none => rfl
  | some o => rw [h.2.2.1 p o pc e] at np; cases np
theorem Wa.own {K : PySem.W.Frag} {H Hn : Hp} {c L p : Addr} {B : Nat} {ls : List Lp} {xs zs : List V} {o : HO} (h : Wa K H Hn c L B ls xs) (g : H p = none ∧ p ≠ c ∧ p ≠ L) (e : Hn p = some (.lst zs)) : Wa K H (upd Hn p o) c L B ls xs :=
  ⟨h.1, h.2.1.upd g.2.1, fun b u n e' => by rw [upd_ne (ne_of_none e' g.1)]; exact h.2.2.1 b u n e', by rw [upd_ne g.2.2.symm]; exact h.2.2.2.1, lps_tk (Tk.own e) h.2.2.2.2⟩
theorem Wa.mono {K : PySem.W.Frag} {H Hn : Hp} {c L : Addr} {B B' : Nat} {ls : List Lp} {xs : List V} (h : Wa K H Hn c L B ls xs) (l : B ≤ B') : Wa K H Hn c L B' ls xs := ⟨h.1, h.2.1.mono l, h.2.2⟩
theorem Wa.app {K : PySem.W.Frag} {H Hn : Hp} {c L : Addr} {B : Nat} {ls : List Lp} {xs : List V} {x : V} {l : Lp} (h : Wa K H Hn c L B ls xs) (nL : H L = none) (d : Dp K Hn x (lpD l)) : Wa K H (upd Hn L (.lst (xs ++ [x]))) c L B (ls ++ [l]) (xs ++ [x]) :=
  ⟨h.1, h.2.1.upd h.1.symm, fun b u n e => by rw [upd_ne (ne_of_none e nL)]; exact h.2.2.1 b u n e, upd_same, by
    rw [List.map_append]
    exact dps_app (lps_tk (Tk.own h.2.2.2.1) h.2.2.2.2) (.cons (lp_tk (Tk.own h.2.2.2.1) d) .nil)⟩
/-- loops as they may stand: threads of ys, parents ahead, ascending -/
def OkLs (ys : List Str) (ls : List Lp) : Prop := ∀ (k : Nat) (l : Lp), ls[k]? = some l → l.1 ∈ ys ∧ l.2.Pairwise (· < ·) ∧ l.2.length ≤ 5 ∧ ∀ p ∈ l.2, 0 ≤ p ∧ p < (k : Int)
def OkFs (n : Nat) (fs : List Int) : Prop := fs.Nodup ∧ ∀ x ∈ fs, 0 ≤ x ∧ x < (n : Int)
theorem okls_app {ys : List Str} {ls : List Lp} {l : Lp} (h : OkLs ys ls) (h1 : l.1 ∈ ys) (h2 : l.2.Pairwise (· < ·)) (h3 : l.2.length ≤ 5) (h4 : ∀ p ∈ l.2, 0 ≤ p ∧ p < (ls.length : Int)) : OkLs ys (ls ++ [l]) := by
  intro k m e
  rw [List.getElem?_append] at e
  split at e
  · exact h k m e
  · rename_i hk
    have : k - ls.length = 0 := by
      cases hq : k - ls.length with
      | zero => rfl
      | succ q => rw [hq] at e; simp at e
    rw [this] at e
    obtain rfl : l = m := by simpa using e
    have hk2 : k = ls.length := by omega
    subst hk2
    exact ⟨h1, h2, h3, h4⟩
theorem sh_ints (ns : List Int) : SeqAt.shaped (.list (ns.map PyData.int)) = true := by
  have h : ∀ ns : List Int, PyData.canLayAll0 (ns.map PyData.int) = true ∧ PyData.depthAll (ns.map PyData.int) = 0 := by
    intro ns
    induction ns with
    | nil => exact ⟨rfl, rfl⟩
    | cons n r ih =>
      constructor
      · rw [List.map_cons, PyData.canLayAll0, ih.1]
        rfl
      · simp only [List.map_cons, PyData.depthAll, PyData.depth, ih.2]
        rfl
  obtain ⟨a, b⟩ := h ns
  refine shaped_of (by simpa only [PyData.canLay0] using a) ?_
  simp only [PyData.depth, b]
  decide
theorem eqv_nili (ns : List Int) : PyData.eqv (.list (ns.map PyData.int)) (.list []) = ns.isEmpty := by
  cases ns with
  | nil => rfl
  | cons y r => rfl
theorem pick8 {k : Int} (k0 : 0 ≤ k) (k1 : k < 8) : ∃ z : Int, 0 ≤ z ∧ z ≤ 5 ∧ atI [V.int 0, .int 1, .int 1, .int 1, .int 2, .int 2, .int 3, .int 5] k = some (.int z) := by
  obtain rfl | rfl | rfl | rfl | rfl | rfl | rfl | rfl : k = 0 ∨ k = 1 ∨ k = 2 ∨ k = 3 ∨ k = 4 ∨ k = 5 ∨ k = 6 ∨ k = 7 := by omega
  all_goals exact ⟨_, by decide, by decide, rfl⟩
section
variable {P : Program} {w : World} {K : PySem.W.Frag} {mg : Str → Option Value} {base : Heap}
theorem eqDq {X : Cx} {K : PySem.W.Frag} (hu : X.A.units + 64 < cLine) (e : X.K = K := by rfl) : OpR X (compareOp .Eq) (rEqD K) := e ▸ op_eqD hu
def spAny (K : PySem.W.Frag) : Sp := fun vs H Q _ => ∃ (c ya : Addr) (most B : Nat) (ys : List Str), vs = [.ref c, .int most, .ref ya] ∧ most ≤ 1000 ∧ CR H c B ∧ B + 20000 < 10 ^ 12 ∧ Ys H ya ys ∧ ys ≠ [] ∧ ys.length ≤ 1000 ∧
  ∀ (t L G : Addr) (H' : Hp) (ls : List Lp) (xs : List V) (fs : List Int), H L = none → H G = none → L ≠ G → H' t = some (.tup [.ref L, .ref G]) → H' L = some (.lst xs) → DpAll K H' xs (ls.map lpD) → H' G = some (.lst (fs.map V.int)) → CR H' c (B + 20000) → Bt c H H' → ls.length ≤ most → OkLs ys ls → OkFs ls.length fs → Q (.ref t) H'
end
end T6
namespace T6
open PySem PySem.Spec PyProof.Rows L2 LK
/-- over a text's signs -/
theorem lc_str {x : Str} {g : TG} {tt : TT} {te : TE} {vs : List Nat} {σ : L2.St} {H1 : Hp} {D : Addr} {Qd : Hp → Prop} (Pv : Nat → Hp → Prop) (h0 : Pv 0 (upd H1 D (.lst [])))
    (hs : ∀ i c H, x.cps.toList[i]? = some c → Pv i H → g (.str ⟨#[c]⟩) (wipe σ vs) H fun σ2 H2 => wipe σ2 vs = wipe σ vs ∧ tt σ2 H2 fun b H3 =>
      if b = true then te σ2 H3 fun y H4 => ∃ acc, H4 D = some (.lst acc) ∧ acc.length < sizeLine ∧ Pv (i + 1) (upd H4 D (.lst (acc ++ [y]))) else Pv (i + 1) H3) (hd : ∀ H, Pv x.cps.toList.length H → Qd H) :
    ∃ W : Nat → Nat → Hp → Prop, (∃ m, W 0 m (upd H1 D (.lst []))) ∧ ∀ i m H, W i m H →
      ((Its x).stop i H ∧ Qd H) ∨ ((Its x).go i H ∧ ∃ Nx : Hp → Prop, (∀ H', Nx H' → ∃ m', m' < m ∧ W (i + 1) m' H') ∧ ∀ v H', (Its x).yld i H v H' → g v (wipe σ vs) H' fun σ2 H2 => wipe σ2 vs = wipe σ vs ∧ tt σ2 H2 fun b H3 =>
        if b = true then te σ2 H3 fun y H4 => ∃ acc, H4 D = some (.lst acc) ∧ acc.length < sizeLine ∧ Nx (upd H4 D (.lst (acc ++ [y]))) else Nx H3) := by
  refine ⟨fun i m H => m = x.cps.toList.length - i ∧ i ≤ x.cps.toList.length ∧ Pv i H, ⟨x.cps.toList.length, by simp, Nat.zero_le _, h0⟩, ?_⟩
  rintro i m H ⟨rfl, hi, p⟩
  by_cases hlt : i < x.cps.toList.length
  · have hlt' : i < x.cps.size := by simpa using hlt
    refine .inr ⟨hlt', Pv (i + 1), fun H' p' => ⟨x.cps.toList.length - (i + 1), by omega, rfl, hlt, p'⟩, fun v H' y => ?_⟩
    obtain ⟨e, c, hc, ev⟩ := y
    subst e ev
    exact hs i c _ (by simpa using hc) p
  · have e : i = x.cps.toList.length := by omega
    subst e
    refine .inl ⟨?_, hd H p⟩
    show x.cps.size ≤ x.cps.toList.length
    simp
/-- what the program asks of an integer, a number, a thread -/
def isIntD : PyData → Bool
  | .int _ => true
  | _ => false
def isNumD (many : Int) : PyData → Bool
  | .int i => decide (0 ≤ i ∧ i < many)
  | _ => false
def isThrD : PyData → Bool
  | .str z => decide (1 ≤ z.length ∧ z.length ≤ 8) && z.cps.toList.all fun c => decide (97 ≤ c ∧ c ≤ 122)
  | _ => false
def spInt (K : PySem.W.Frag) : Sp := fun vs H Q _ => ∃ (v : V) (d : PyData), vs = [v] ∧ Dp K H v d ∧ ∀ H', Same H H' → Q (.bl (isIntD d)) H'
def spNum (K : PySem.W.Frag) : Sp := fun vs H Q _ => ∃ (v : V) (d : PyData) (many : Int), vs = [v, .int many] ∧ Dp K H v d ∧ ∀ H', Same H H' → Q (.bl (isNumD many d)) H'
mutual
/-- short texts, short lists, all the way down -/
def tame : PyData → Bool
  | .list xs => decide (xs.length ≤ 1000) && tameAll xs
  | .tuple xs => decide (xs.length ≤ 1000) && tameAll xs
  | .str z => decide (z.length ≤ 1000)
  | _ => true
def tameAll : List PyData → Bool
  | [] => true
  | x :: r => tame x && tameAll r
end
theorem tame_mem : ∀ {ds : List PyData} {d : PyData}, tameAll ds = true → d ∈ ds → tame d = true
  | x :: r, d, h, e => by
    rw [tameAll, Bool.and_eq_true] at h
    rcases List.mem_cons.mp e with rfl | e
    · exact h.1
    · exact tame_mem h.2 e
theorem abc_mem {c : Nat} : c ∈ abc.cps.toList ↔ 97 ≤ c ∧ c ≤ 122 := by
  have : abc.cps.toList = List.range' 97 26 := by decide +kernel
  rw [this, List.mem_range'_1]
  omega
theorem sh_signs {z : Str} (h : PyData.canLay0 (.str z) = true) (f : Nat → Bool) : ∀ n, SeqAt.shaped (.list ((((z.cps.toList.take n).filter f).map fun c => (⟨#[c]⟩ : Str)).map PyData.str)) = true := fun n => by
  have hz : ∀ c ∈ z.cps.toList, c < 0x110000 := fun c hc => by
    have h' : z.cps.all (· < 0x110000) = true := h
    rw [Array.all_eq_true_iff_forall_mem] at h'
    exact of_decide_eq_true (h' c (by simpa using hc))
  have g : ∀ cs : List Nat, (∀ c ∈ cs, c < 0x110000) → PyData.canLayAll0 ((cs.map fun c => (⟨#[c]⟩ : Str)).map PyData.str) = true ∧ PyData.depthAll ((cs.map fun c => (⟨#[c]⟩ : Str)).map PyData.str) = 0 := by
    intro cs
    induction cs with
    | nil => exact fun _ => ⟨rfl, rfl⟩
    | cons c r ih =>
      intro hc
      obtain ⟨a, b⟩ := ih fun x hx => hc x (List.mem_cons_of_mem _ hx)
      constructor
      · rw [List.map_cons, List.map_cons, PyData.canLayAll0, a, Bool.and_true]
        show (#[c]).all (· < 0x110000) = true
        simp [hc c (List.mem_cons_self ..)]
      · rw [List.map_cons, List.map_cons, PyData.depthAll, b]
        rfl
  obtain ⟨a, b⟩ := g ((z.cps.toList.take n).filter f) fun c hc => hz c (List.mem_of_mem_take (List.mem_filter.mp hc).1)
  refine shaped_of (by simpa only [PyData.canLay0] using a) ?_
  simp only [PyData.depth, b]
  decide
theorem sz1000 : 1000 ≤ sizeLine := by decide
def spThr (K : PySem.W.Frag) : Sp := fun vs H Q _ => ∃ (v : V) (d : PyData), vs = [v] ∧ Dp K H v d ∧ tame d = true ∧ d.canLay0 = true ∧ ∀ H', Same H H' → Q (.bl (isThrD d)) H'
def spSpot (K : PySem.W.Frag) : Sp := fun vs H Q _ => ∃ (v : V) (d : PyData) (many : Int), vs = [.int many, v] ∧ Dp K H v d ∧ ∀ H', Same H H' → Q (.bl (isNumD many d)) H'
theorem isK_int {d : PyData} : (isK d "int" && !isK d "bool") = isIntD d := by
  cases d <;> rfl
theorem int_of {K : PySem.W.Frag} {H : Hp} {v : V} {d : PyData} (h : Dp K H v d) (e : isIntD d = true) : ∃ i, v = .int i ∧ d = .int i := by
  cases h with
  | int i => exact ⟨i, rfl, rfl⟩
  | _ => exact absurd e (by simp [isIntD])
theorem str_of {K : PySem.W.Frag} {H : Hp} {v : V} {d : PyData} (h : Dp K H v d) (e : isK d "str" = true) : ∃ z, v = .str z ∧ d = .str z := by
  cases h with
  | str z => exact ⟨z, rfl, rfl⟩
  | non => exact absurd e (by decide +kernel)
  | bl b => exact absurd (show isK (.bool true) "str" = true from e) (by decide +kernel)
  | int i => exact absurd (show isK (.int 0) "str" = true from e) (by decide +kernel)
  | lst _ _ => exact absurd (show isK (.list []) "str" = true from e) (by decide +kernel)
  | tup _ _ => exact absurd (show isK (.tuple []) "str" = true from e) (by decide +kernel)
section
variable {P : Program} {w : World} {K : PySem.W.Frag} {mg : Str → Option Value} {base : Heap}
abbrev sIsInt : Stmt := top 11
theorem scIsInt : FnScope ["value"] ["value"] (defScope sIsInt) := ⟨rfl, rfl, rfl, by decide +kernel, rfl, by decide +kernel, by decide +kernel⟩
theorem ok_IsInt {f : Addr} {fd : FuncData} (F : Fun K "is_integer" "is_integer" sIsInt f fd) (B : Bl mg) : FnOk P w K mg base CX0 1 f fd ["value"] (spInt K) := by
  refine F.ok scIsInt (fun vs H Q E h => ?_) (fun cdv A outer s H vs Q E hr h => ?_)
  · obtain ⟨v, d, rfl, _⟩ := h
    rfl
  · obtain ⟨v, d, rfl, h1, k⟩ := h
    refine ⟨_, pss_one (ps_ret (pe_and (pe_callB call_isi (by rfl) (B "isinstance" (by decide)) (by decide +kernel) (pa_cons (pv 0) (pa_cons (pe_bltn (v := .ty "int") rfl (B "int" (by decide)) (by decide +kernel) rfl) pa_nil))) (pe_one (pe_not (pe_callB call_isi (by rfl) (B "isinstance" (by decide)) (by decide +kernel) (pa_cons (pv 0) (pa_cons (pe_bltn (v := .ty "bool") rfl (B "bool" (by decide)) (by decide +kernel) rfl) pa_nil))))))), ?_⟩
    rw [← isK_int] at k
    refine ⟨_, rfl, _, _, _, _, _, rfl, .ty "int", dp_ty h1, kit_d h1 "int" (by decide), _, rfl, ?_⟩
    cases e : isK d "int" with
    | false =>
      refine LK.ifF rfl ?_
      have := k H (Same.refl H)
      rwa [e] at this
    | true =>
      refine LK.ifT rfl ⟨_, rfl, _, _, _, _, _, rfl, .ty "bool", dp_ty h1, kit_d h1 "bool" (by decide), _, rfl, ?_⟩
      have := k H (Same.refl H)
      rwa [e] at this
abbrev sIsNum : Stmt := top 12
theorem scIsNum : FnScope ["value", "many"] ["value", "many"] (defScope sIsNum) := ⟨rfl, rfl, rfl, by decide +kernel, rfl, by decide +kernel, by decide +kernel⟩
theorem ok_IsNum {f : Addr} {fd : FuncData} (F : Fun K "is_number" "is_number" sIsNum f fd) (B : Bl mg) {fi : Addr} {fdi : FuncData} (Gi : FnOk P w K mg base CX0 1 fi fdi ["value"] (spInt K)) (gi : mg "is_integer" = some (.ref fi)) (ki : PySem.W.keepIn K (.ref fi) = true) (bi : Binds K fdi ["value"] []) : FnOk P w K mg base CX0 2 f fd ["value", "many"] (spNum K) := by
  refine F.ok scIsNum (fun vs H Q E h => ?_) (fun cdv A outer s H vs Q E hr h => ?_)
  · obtain ⟨v, d, many, rfl, _⟩ := h
    rfl
  · obtain ⟨v, d, many, rfl, h1, k⟩ := h
    refine ⟨_, pss_one (ps_ret (pe_and (pe_call (E := E0) Gi (hr.mono (by decide)) rfl gi ki bi .nil pass0 (pa_cons (pv 0) pa_nil)) (pe_one (pe_chain op_le op_lt pe_int (pv 0) (pv 1))))), ?_⟩
    refine ⟨_, rfl, v, d, rfl, h1, fun H1 s1 => ⟨_, rfl, ?_⟩⟩
    cases e : isIntD d with
    | false =>
      refine LK.ifF rfl ?_
      have := k H1 s1
      have en : isNumD many d = false := by
        cases d <;> first | rfl | exact absurd e (by simp [isIntD])
      rwa [en] at this
    | true =>
      obtain ⟨i, rfl, rfl⟩ := int_of h1 e
      refine LK.ifT rfl ⟨_, rfl, _, _, rfl, rfl, _, rfl, ?_⟩
      have kk := k H1 s1
      rw [isNumD] at kk
      by_cases c0 : 0 ≤ i
      · refine LK.ifT (decide_eq_true c0) ⟨_, rfl, _, _, rfl, rfl, ?_⟩
        rwa [show decide (0 ≤ i ∧ i < many) = decide (i < many) by simp [c0]] at kk
      · refine LK.ifF (decide_eq_false c0) ?_
        rwa [show decide (0 ≤ i ∧ i < many) = false by simp [c0]] at kk
abbrev sIsThr : Stmt := top 13
theorem scIsThr : FnScope ["value", "sign"] ["value"] (defScope sIsThr) := ⟨rfl, rfl, rfl, by decide +kernel, rfl, by decide +kernel, by decide +kernel⟩
theorem ok_IsThr {f : Addr} {fd : FuncData} (F : Fun K "is_thread" "is_thread" sIsThr f fd) (B : Bl mg) (gL : ∃ t, mg "LONGEST_THREAD" = some (.int 8 t)) : FnOk P w K mg base CX0 1 f fd ["value"] (spThr K) := by
  refine F.ok scIsThr (fun vs H Q E h => ?_) (fun cdv A outer s H vs Q E hr h => ?_)
  · obtain ⟨v, d, rfl, _⟩ := h
    rfl
  · obtain ⟨v, d, rfl, h1, tm, lay, k⟩ := h
    obtain ⟨tk, gL⟩ := gL
    refine ⟨_, pss_cons (ps_if (PW.pt (pw_or (pt_not (pt_val (pe_callB call_isi (by rfl) (B "isinstance" (by decide)) (by decide +kernel) (pa_cons (pv 0) (pa_cons (pe_bltn (v := .ty "str") rfl (B "str" (by decide)) (by decide +kernel) rfl) pa_nil))))) (pw_or1 (pt_not (pt_chain op_le op_le pe_int (pe_callB call_len_str (by rfl) (B "len" (by decide)) (by decide +kernel) (pa_cons (pv 0) pa_nil)) (pe_glob (v := .int 8) rfl gL ⟨_, rfl⟩)))))) (pss_one (ps_ret pe_bl)) pss_nil)
      (pss_one (ps_ret (pe_callB (cr_all rfl) (by rfl) (B "all" (by decide)) (by decide +kernel) (pa_cons (pe_lc (own := [("sign", 1)]) (g := gName 1) (tt := tYes) rfl scIsThr.nd (pi_str (pv 0)) (blkOk_by (N := ["value", "sign"]) (sc := defScope sIsThr) (by decide +kernel)) (fun _ _ _ _ _ => pg_name (i := 1) scIsThr.nd rfl (Or.inl rfl)) (fun _ _ _ _ _ => pts_nil) (fun _ _ _ _ _ => pe_chain op_le_str op_le_str pe_str (pv 1) pe_str)) pa_nil)))), ?_⟩
    refine ⟨_, rfl, _, _, _, _, _, rfl, .ty "str", dp_ty h1, kit_d h1 "str" (by decide), _, rfl, ?_⟩
    have kk := k H (Same.refl H)
    cases e : isK d "str" with
    | false =>
      refine LK.ifT rfl (LK.ifT rfl ?_)
      have en : isThrD d = false := by
        cases d <;> first | rfl | exact absurd (show isK (.str "") "str" = false from e) (by decide +kernel)
      rwa [en] at kk
    | true =>
      obtain ⟨z, rfl, rfl⟩ := str_of h1 e
      have zl : z.length ≤ sizeLine := Nat.le_trans (of_decide_eq_true tm) sz1000
      refine LK.ifF rfl ⟨_, rfl, z, rfl, zl, _, _, rfl, rfl, _, rfl, ?_⟩
      have no : ¬ (1 ≤ z.length ∧ z.length ≤ 8) → isThrD (.str z) = false := fun n => by
        rw [isThrD, decide_eq_false n, Bool.false_and]
      by_cases c1 : (1 : Int) ≤ (z.length : Int)
      · refine LK.ifT (decide_eq_true c1) ⟨_, _, rfl, rfl, _, rfl, ?_⟩
        by_cases c2 : (z.length : Int) ≤ 8
        · refine LK.ifF (by simp [c2]) ⟨_, rfl, z, rfl, fun D nD => ?_⟩
          refine lc_str (x := z) (fun j H' => H' D = some (.lst ((((z.cps.toList.take j).map fun c => decide (97 ≤ c ∧ c ≤ 122)).map V.bl))) ∧ Same H H') ⟨upd_same, same_new nD⟩ (fun j c H' hj hh => ⟨rfl, ?_⟩) (fun H' hh => ?_)
          · obtain ⟨hD, s1⟩ := hh
            have fin : ∀ b : Bool, b = decide (97 ≤ c ∧ c ≤ 122) → ∃ acc, H' D = some (.lst acc) ∧ acc.length < sizeLine ∧ (L2.upd H' D (.lst (acc ++ [V.bl b])) D = some (.lst ((((z.cps.toList.take (j + 1)).map fun c => decide (97 ≤ c ∧ c ≤ 122)).map V.bl))) ∧ Same H (L2.upd H' D (.lst (acc ++ [V.bl b])))) := by
              rintro b rfl
              refine ⟨_, hD, ?_, ?_, fun b o e => ?_⟩
              · rw [List.length_map, List.length_map, List.length_take]
                have : z.cps.toList.length = z.length := by simp [Str.length]
                have : j < z.length := by
                  have := (List.getElem?_eq_some_iff.mp hj).1
                  omega
                exact Nat.lt_of_lt_of_le (by omega : _ < 100) (by decide)
              · rw [upd_same, List.take_succ, hj, List.map_append, List.map_append]
                rfl
              · rw [upd_ne (ne_of_none e nD)]
                exact s1 b o e
            have a1 : decide ([c] < ([97] : List Nat)) = decide (c < 97) := by simp [List.cons_lt_cons_iff]
            have a2 : decide (([122] : List Nat) < [c]) = decide (122 < c) := by simp [List.cons_lt_cons_iff]
            refine ⟨_, rfl, _, _, rfl, rfl, _, rfl, ?_⟩
            show if (!decide ([c] < ([97] : List Nat))) = true then _ else _
            rw [a1]
            by_cases k1 : c < 97
            · rw [decide_eq_true k1]
              exact LK.ifF rfl (fin false (by simp; omega))
            · rw [decide_eq_false k1]
              refine LK.ifT rfl ⟨_, _, rfl, rfl, fin _ ?_⟩
              show (!decide (([122] : List Nat) < [c])) = _
              rw [a2]
              rw [Bool.eq_iff_iff]
              simp
              omega
          · obtain ⟨hD, s1⟩ := hh
            refine ⟨D, _, rfl, SqL.of hD, ?_⟩
            have kk := k H' s1
            rw [isThrD, decide_eq_true ⟨by omega, by omega⟩, Bool.true_and] at kk
            rw [List.take_length, List.all_map]
            exact kk
        · refine LK.ifT (by simp [c2]) ?_
          rwa [no (by omega)] at kk
      · refine LK.ifF (decide_eq_false c1) ⟨_, rfl, LK.ifT rfl ?_⟩
        rwa [no (by omega)] at kk
end
end T6
namespace T6
open PySem PySem.Spec PyProof.Rows L2 LK
/-- a loop over enumerate of a list that stands still -/
theorem for_enum {K : PySem.W.Frag} {a : Addr} {xs : List V} {g : TG} {tb : TS} {D : Ends} {σ : L2.St} {H : Hp} (Pv : Nat → L2.St → Hp → Prop) (h0 : Pv 0 σ H) (hq : ∀ i σ H, Pv i σ H → SqL K H a xs)
    (hs : ∀ (i : Nat) (x : V) (T : Addr) (σ : L2.St) (H : Hp), xs[i]? = some x → Pv i σ H → H T = none → g (.ref T) σ (upd H T (.tup [.int (i : Nat), x])) fun σ2 H2 => tb { D with nx := Pv (i + 1), ct := Pv (i + 1), bk := D.nx } σ2 H2) (hd : ∀ σ H, Pv xs.length σ H → D.nx σ H) :
    ∃ W : Nat → Nat → L2.St → Hp → Prop, (∃ m, W 0 m σ H) ∧ ∀ i m σ H, W i m σ H →
      ((Ite K a).stop i H ∧ D.nx σ H) ∨ ((Ite K a).go i H ∧ ∃ N : L2.St → Hp → Prop, (∀ σ' H', N σ' H' → ∃ m', m' < m ∧ W (i + 1) m' σ' H') ∧ ∀ v H', (Ite K a).yld i H v H' → g v σ H' fun σ2 H2 => tb { D with nx := N, ct := N, bk := D.nx } σ2 H2) := by
  refine ⟨fun i m σ H => m = xs.length - i ∧ i ≤ xs.length ∧ Pv i σ H, ⟨xs.length, rfl, Nat.zero_le _, h0⟩, ?_⟩
  rintro i m σ H ⟨rfl, hi, p⟩
  have qx := hq i σ H p
  by_cases hlt : i < xs.length
  · have hx : xs[i]? = some xs[i] := List.getElem?_eq_getElem hlt
    refine .inr ⟨⟨xs, _, qx, hx⟩, Pv (i + 1), fun σ' H' p' => ⟨xs.length - (i + 1), by omega, rfl, hlt, p'⟩, fun v H' y => ?_⟩
    obtain ⟨T, x', rfl, hT, rfl, f1⟩ := y
    exact hs i x' T σ H (f1 xs qx) p hT
  · have e : i = xs.length := by omega
    subst e
    exact .inl ⟨⟨xs, qx, Nat.le_refl _⟩, hd σ H p⟩
def hasInt (ds : List PyData) (i : Int) : Bool := ds.any fun d => match d with
  | .int j => j == i
  | _ => false
/-- the number at k is none, or stands ahead already -/
def lotBad (many : Int) (ds : List PyData) (k : Nat) : Bool := match ds[k]? with
  | some (.int i) => !decide (0 ≤ i ∧ i < many) || hasInt (ds.take k) i
  | some _ => true
  | none => false
def lotFault (many : Int) : PyData → Option Int
  | .list ds => ((List.range ds.length).find? (lotBad many ds)).map fun k : Nat => (k : Int)
  | _ => some (-1)
def optV : Option Int → V
  | none => .non
  | some i => .int i
def spLot (K : PySem.W.Frag) : Sp := fun vs H Q _ => ∃ (v : V) (d : PyData) (many : Int), vs = [v, .int many] ∧ Dp K H v d ∧ tame d = true ∧ ∀ H', Same H H' → Q (optV (lotFault many d)) H'
def spLot2 (K : PySem.W.Frag) : Sp := fun vs H Q _ => ∃ (v : V) (d : PyData) (many : Int), vs = [.int many, v] ∧ Dp K H v d ∧ tame d = true ∧ ∀ H', Same H H' → Q (optV (lotFault many d)) H'
theorem list_of {K : PySem.W.Frag} {H : Hp} {v : V} {d : PyData} (h : Dp K H v d) (e : isK d "list" = true) : ∃ a xs ds, v = .ref a ∧ d = .list ds ∧ SqL K H a xs ∧ DpAll K H xs ds := by
  cases h with
  | lst s a => exact ⟨_, _, _, rfl, rfl, s, a⟩
  | non => exact absurd e (by decide +kernel)
  | bl b => exact absurd (show isK (.bool true) "list" = true from e) (by decide +kernel)
  | int i => exact absurd (show isK (.int 0) "list" = true from e) (by decide +kernel)
  | str z => exact absurd (show isK (.str "") "list" = true from e) (by decide +kernel)
  | tup _ _ => exact absurd (show isK (.tuple []) "list" = true from e) (by decide +kernel)
theorem tup_of {K : PySem.W.Frag} {H : Hp} {v : V} {d : PyData} (h : Dp K H v d) (e : isK d "tuple" = true) : ∃ a xs ds, v = .ref a ∧ d = .tuple ds ∧ SqT K H a xs ∧ DpAll K H xs ds := by
  cases h with
  | tup s a => exact ⟨_, _, _, rfl, rfl, s, a⟩
  | non => exact absurd e (by decide +kernel)
  | bl b => exact absurd (show isK (.bool true) "tuple" = true from e) (by decide +kernel)
  | int i => exact absurd (show isK (.int 0) "tuple" = true from e) (by decide +kernel)
  | str z => exact absurd (show isK (.str "") "tuple" = true from e) (by decide +kernel)
  | lst _ _ => exact absurd (show isK (.list []) "tuple" = true from e) (by decide +kernel)
theorem lot_no {many : Int} {d : PyData} (e : isK d "list" = false) : lotFault many d = some (-1) := by
  cases d <;> first | rfl | exact absurd (show isK (.list []) "list" = false from e) (by decide +kernel)
theorem find_all {p : Nat → Bool} {n : Nat} (h : ∀ k < n, p k = false) : (List.range n).find? p = none := by
  rw [List.find?_eq_none]
  intro x hx
  simp [h x (List.mem_range.mp hx)]
theorem find_at {p : Nat → Bool} {n k : Nat} (hk : k < n) (h : ∀ j < k, p j = false) (hp : p k = true) : (List.range n).find? p = some k := by
  have e : List.range n = List.range k ++ k :: (List.range' (k + 1) (n - k - 1)) := by
    have h1 : n = k + (n - k) := by omega
    have h2 : n - k = (n - k - 1) + 1 := by omega
    rw [List.range_eq_range', List.range_eq_range', h1, ← List.range'_append_1, Nat.zero_add, show k + (n - k) - k = n - k by omega, h2, List.range'_succ]
    rfl
  rw [e, List.find?_append, find_all h, Option.none_or, List.find?_cons, hp]
theorem lotBad_no {many : Int} {ds : List PyData} {k : Nat} {d : PyData} (e : ds[k]? = some d) (n : isNumD many d = false) : lotBad many ds k = true := by
  unfold lotBad
  rw [e]
  cases d with
  | int i =>
    rw [isNumD] at n
    show (!decide (0 ≤ i ∧ i < many) || _) = true
    rw [n]
    rfl
  | _ => rfl
theorem lotBad_int {many : Int} {ds : List PyData} {k : Nat} {i : Int} (e : ds[k]? = some (.int i)) (n : isNumD many (.int i) = true) : lotBad many ds k = hasInt (ds.take k) i := by
  unfold lotBad
  rw [e]
  rw [isNumD] at n
  show (!decide (0 ≤ i ∧ i < many) || _) = _
  rw [n]
  rfl
theorem num_int {many : Int} {d : PyData} (n : isNumD many d = true) : isIntD d = true := by
  cases d <;> first | rfl | exact absurd n (by simp [isNumD])
theorem hasInt_more {ds : List PyData} {k : Nat} {i : Int} (e : ds[k]? = some (.int i)) : hasInt (ds.take (k + 1)) = fun j => hasInt (ds.take k) j || decide (j = i) := by
  funext j
  unfold hasInt
  rw [List.take_succ, e, List.any_append]
  simp only [Option.toList, List.any_cons, List.any_nil, Bool.or_false]
  congr 1
  rw [Bool.eq_iff_iff]
  simp
  exact ⟨fun h => h.symm, fun h => h.symm⟩
theorem nums_take {K : PySem.W.Frag} {H : Hp} {many : Int} : ∀ {xs : List V} {ds : List PyData} {k : Nat}, DpAll K H xs ds → (∀ j < k, ∀ d, ds[j]? = some d → isNumD many d = true) → ∃ ns : List Int, xs.take k = ns.map V.int ∧ ds.take k = ns.map PyData.int
  | _, _, _, .nil, _ => ⟨[], by simp, by simp⟩
  | _, _, 0, .cons _ _, _ => ⟨[], rfl, rfl⟩
  | _, _, k + 1, .cons a r, h => by
    have h0 := h 0 (by omega) _ rfl
    obtain ⟨i, rfl, rfl⟩ := int_of a (num_int h0)
    obtain ⟨ns, e1, e2⟩ := nums_take (k := k) r fun j hj d e => h (j + 1) (by omega) d e
    exact ⟨i :: ns, by rw [List.take_succ_cons, e1]; rfl, by rw [List.take_succ_cons, e2]; rfl⟩
theorem hasInt_ints (ns : List Int) (i : Int) : hasInt (ns.map PyData.int) i = decide (i ∈ ns) := by
  unfold hasInt
  rw [List.any_map, Bool.eq_iff_iff, List.any_eq_true]
  simp
theorem bad_num {many : Int} {ds : List PyData} {j : Nat} {d : PyData} (h : lotBad many ds j = false) (e : ds[j]? = some d) : isNumD many d = true := by
  cases q : isNumD many d with
  | true => rfl
  | false => rw [lotBad_no e q] at h; cases h
theorem cut_take {xs : List V} {i : Nat} (h : i ≤ xs.length) : cutV xs none (some (i : Int)) = xs.take i := by
  unfold cutV
  rw [HT.sIx_nat, HT.sIx_none, List.drop_zero, Nat.sub_zero, Nat.min_eq_left h]
section
variable {P : Program} {w : World} {K : PySem.W.Frag} {mg : Str → Option Value} {base : Heap}
abbrev sWrong : Stmt := top 14
theorem scWrong : FnScope ["numbers", "many", "seen", "index", "number"] ["numbers", "many"] (defScope sWrong) := ⟨rfl, rfl, rfl, by decide +kernel, rfl, by decide +kernel, by decide +kernel⟩
theorem ok_Wrong {f : Addr} {fd : FuncData} (F : Fun K "wrong_number" "wrong_number" sWrong f fd) (B : Bl mg) {fn : Addr} {fdn : FuncData} (Gn : FnOk P w K mg base CX0 2 fn fdn ["value", "many"] (spNum K)) (gn : mg "is_number" = some (.ref fn)) (kn : PySem.W.keepIn K (.ref fn) = true) (bn : Binds K fdn ["value", "many"] []) : FnOk P w K mg base CX0 3 f fd ["numbers", "many"] (spLot K) := by
  refine F.ok scWrong (fun vs H Q E h => ?_) (fun cdv A outer s H vs Q E hr h => ?_)
  · obtain ⟨v, d, many, rfl, _⟩ := h
    rfl
  · obtain ⟨v, d, many, rfl, h1, tm, k⟩ := h
    refine ⟨_, pss_cons (ps_if (pt_not (pt_val (pe_callB call_isi (by rfl) (B "isinstance" (by decide)) (by decide +kernel) (pa_cons (pv 0) (pa_cons (pe_bltn (v := .ty "list") rfl (B "list" (by decide)) (by decide +kernel) rfl) pa_nil))))) (pss_one (ps_ret (pe_un un_neg pe_int))) pss_nil)
      (pss_cons (ps_set (i := 2) scWrong.nd rfl (Or.inl rfl) (pe_callTy0 cr_set0 (by rfl) (B "set" (by decide)) (by decide +kernel)))
      (pss_cons (ps_for PassesOwn.never rfl (pi_enum (by rfl) (B "enumerate" (by decide)) (pa_cons (pv 0) pa_nil)) (pg_tup rfl (pgs_cons (pg_name (i := 3) scWrong.nd rfl (Or.inl rfl)) (pgs_cons (pg_name (i := 4) scWrong.nd rfl (Or.inl rfl)) pgs_nil))) (pss_cons (ps_if (PW.pt (pw_or (pt_not (pt_val (pe_call (E := E0) Gn (hr.mono (by decide)) rfl gn kn bn .nil pass0 (pa_cons (pv 4) (pa_cons (pv 1) pa_nil))))) (pw_or1 (pt_cmpR or_sin (pv 4) (pv 2) (by rfl))))) (pss_one (ps_ret (pv 3))) pss_nil)
      (pss_one (ps_expr (pe_sadd (pv 2) (pa_cons (pv 4) pa_nil))))))
      (pss_one (ps_ret pe_non)))), ?_⟩
    refine ⟨_, rfl, _, _, _, _, _, rfl, .ty "list", dp_ty h1, kit_d h1 "list" (by decide), _, rfl, ?_⟩
    cases e : isK d "list" with
    | false =>
      refine LK.ifT rfl ⟨1, rfl, ?_⟩
      have := k H (Same.refl H)
      rwa [lot_no e] at this
    | true =>
      obtain ⟨a, xs, ds, rfl, rfl, hs, hd⟩ := list_of h1 e
      have ln : ds.length ≤ 1000 := by
        rw [tame, Bool.and_eq_true] at tm
        exact of_decide_eq_true tm.1
      have xl := dps_len hd
      refine LK.ifF rfl ⟨rfl, fun S nS => ?_⟩
      refine ⟨_, rfl, a, xs, rfl, (same_new nS).seq hs, ?_⟩
      refine for_enum (xs := xs) (fun i σ H' => ∃ (o3 o4 : Option V) (n : Nat), σ = [some (.ref a), some (.int many), some (.ref S), o3, o4] ∧ H' S = some (SetO w S (hasInt (ds.take i)) n) ∧ n ≤ i ∧ (∀ k < i, lotBad many ds k = false) ∧ Same H H')
        ⟨_, _, 0, rfl, upd_same, Nat.le_refl _, fun k h => absurd h (Nat.not_lt_zero _), same_new nS⟩ (fun i σ H' h => h.choose_spec.choose_spec.choose_spec.2.2.2.2.seq hs) (fun i x T σ H' hx hI nT => ?_) (fun σ H' hI => ?_)
      · obtain ⟨o3, o4, n, rfl, hS, hn, hb, s1⟩ := hI
        obtain ⟨x', d, hx', hd', dx⟩ := dps_at hd (i := i) (by rw [← xl]; exact (List.getElem?_eq_some_iff.mp hx).1)
        obtain rfl : x = x' := by
          rw [hx] at hx'
          exact Option.some.inj hx'
        have s2 := same_new (o := .tup [.int (i : Nat), x]) nT
        have s3 : Same H _ := fun b o e => s2 b o (s1 b o e)
        have hS2 := s2 _ _ hS
        refine ⟨T, _, rfl, .inl (.inl upd_same), rfl, _, _, rfl, _, _, rfl, rfl, ?_⟩
        refine ⟨_, rfl, _, rfl, x, d, many, rfl, dp_same s3 dx, fun H2 s4 => ⟨_, rfl, ?_⟩⟩
        have s5 : Same H H2 := fun b o e => s4 b o (s3 b o e)
        have hS3 := s4 _ _ hS2
        have il : i < ds.length := by
          rw [← xl]
          exact (List.getElem?_eq_some_iff.mp hx).1
        cases e1 : isNumD many d with
        | false =>
          refine LK.ifT rfl (LK.ifT rfl ⟨_, rfl, ?_⟩)
          have := k H2 s5
          rwa [lotFault, find_at il hb (lotBad_no hd' e1)] at this
        | true =>
          obtain ⟨q, rfl, rfl⟩ := int_of dx (num_int e1)
          refine LK.ifF rfl ⟨_, rfl, _, rfl, q, S, _, n, rfl, rfl, hS3, _, rfl, ?_⟩
          cases e2 : hasInt (ds.take i) q with
          | true =>
            refine LK.ifT rfl ⟨_, rfl, ?_⟩
            have := k H2 s5
            rwa [lotFault, find_at il hb ((lotBad_int hd' e1).trans e2)] at this
          | false =>
            refine LK.ifF rfl ⟨_, rfl, ⟨S, _, n, rfl, hS3⟩, _, rfl, S, q, _, n, rfl, rfl, hS3, ?_, _, _, n + 1, rfl, ?_, ?_, ?_, ?_⟩
            · show n + 1 < 4096
              omega
            · rw [upd_same, hasInt_more hd', if_neg (by rw [e2]; decide)]
              rfl
            · omega
            · intro k' hk'
              by_cases ek : k' = i
              · subst ek
                exact (lotBad_int hd' e1).trans e2
              · exact hb k' (by omega)
            · intro b o eb
              rw [upd_ne (ne_of_none eb nS)]
              exact s5 b o eb
      · obtain ⟨o3, o4, n, rfl, hS, hn, hb, s1⟩ := hI
        have := k H' s1
        rw [lotFault, find_all (fun j hj => hb j (by omega))] at this
        exact this
end
end T6
namespace T6
open PySem PySem.Spec PyProof.Rows L2 LK RZ
/-- over zip of two tuples, the second not longer -/
theorem lc_zipT {K : PySem.W.Frag} {a b : Addr} {xs ys : List V} {g : TG} {tt : TT} {te : TE} {vs : List Nat} {σ : L2.St} {H1 : Hp} {D : Addr} {Qd : Hp → Prop} (hl : ys.length ≤ xs.length) (Pv : Nat → Hp → Prop) (h0 : Pv 0 (upd H1 D (.lst []))) (hq : ∀ i H, Pv i H → SqT K H a xs ∧ SqT K H b ys)
    (hs : ∀ i x y T H, xs[i]? = some x → ys[i]? = some y → Pv i H → H T = none → g (.ref T) (wipe σ vs) (upd H T (.tup [x, y])) fun σ2 H2 => wipe σ2 vs = wipe σ vs ∧ tt σ2 H2 fun b H3 =>
      if b = true then te σ2 H3 fun y H4 => ∃ acc, H4 D = some (.lst acc) ∧ acc.length < sizeLine ∧ Pv (i + 1) (upd H4 D (.lst (acc ++ [y]))) else Pv (i + 1) H3) (hd : ∀ H, Pv ys.length H → Qd H) :
    ∃ W : Nat → Nat → Hp → Prop, (∃ m, W 0 m (upd H1 D (.lst []))) ∧ ∀ i m H, W i m H →
      ((ItzT K a b).stop i H ∧ Qd H) ∨ ((ItzT K a b).go i H ∧ ∃ Nx : Hp → Prop, (∀ H', Nx H' → ∃ m', m' < m ∧ W (i + 1) m' H') ∧ ∀ v H', (ItzT K a b).yld i H v H' → g v (wipe σ vs) H' fun σ2 H2 => wipe σ2 vs = wipe σ vs ∧ tt σ2 H2 fun b H3 =>
        if b = true then te σ2 H3 fun y H4 => ∃ acc, H4 D = some (.lst acc) ∧ acc.length < sizeLine ∧ Nx (upd H4 D (.lst (acc ++ [y]))) else Nx H3) := by
  refine ⟨fun i m H => m = ys.length - i ∧ i ≤ ys.length ∧ Pv i H, ⟨ys.length, by simp, Nat.zero_le _, h0⟩, ?_⟩
  rintro i m H ⟨rfl, hi, p⟩
  obtain ⟨qx, qy⟩ := hq i H p
  by_cases hlt : i < ys.length
  · have hy : ys[i]? = some ys[i] := List.getElem?_eq_getElem hlt
    have hx : xs[i]? = some (xs[i]'(by omega)) := List.getElem?_eq_getElem (by omega)
    refine .inr ⟨⟨xs, ys, _, _, qx, qy, hx, hy⟩, Pv (i + 1), fun H' p' => ⟨ys.length - (i + 1), by omega, rfl, hlt, p'⟩, fun v H' y => ?_⟩
    obtain ⟨T, x', y', rfl, hT, rfl, f1, f2⟩ := y
    exact hs i x' y' T H (f1 xs qx) (f2 ys qy) p hT
  · have e : i = ys.length := by omega
    subst e
    exact .inl ⟨⟨xs, ys, qx, qy, Or.inr (Nat.le_refl _)⟩, hd H p⟩
def ltAt (ds : List PyData) (j : Nat) : Bool := match ds[j]?, ds[j + 1]? with
  | some (.int a), some (.int b) => decide (a < b)
  | _, _ => false
/-- each less than the next one -/
def rise (ds : List PyData) : Bool := (List.range (ds.length - 1)).all (ltAt ds)
def isParD (many : Int) : PyData → Bool
  | .tuple ds => ds.all (isNumD many) && rise ds
  | _ => false
def isLoopD (number : Int) : PyData → Bool
  | .tuple [a, b] => isThrD a && isParD number b
  | _ => false
def spPar (K : PySem.W.Frag) : Sp := fun vs H Q _ => ∃ (v : V) (d : PyData) (many : Int), vs = [v, .int many] ∧ Dp K H v d ∧ tame d = true ∧ ∀ H', Same H H' → Q (.bl (isParD many d)) H'
def spLoop (K : PySem.W.Frag) : Sp := fun vs H Q _ => ∃ (v : V) (d : PyData) (many : Int), vs = [v, .int many] ∧ Dp K H v d ∧ tame d = true ∧ d.canLay0 = true ∧ ∀ H', Same H H' → Q (.bl (isLoopD many d)) H'
theorem par_no {many : Int} {d : PyData} (e : isK d "tuple" = false) : isParD many d = false := by
  cases d <;> first | rfl | exact absurd (show isK (.tuple []) "tuple" = false from e) (by decide +kernel)
theorem loop_no {many : Int} {d : PyData} (e : isK d "tuple" = false) : isLoopD many d = false := by
  cases d <;> first | rfl | exact absurd (show isK (.tuple []) "tuple" = false from e) (by decide +kernel)
section
variable {P : Program} {w : World} {K : PySem.W.Frag} {mg : Str → Option Value} {base : Heap}
abbrev sPar : Stmt := top 17
theorem scPar : FnScope ["value", "many", "one", "other", "parent"] ["value", "many"] (defScope sPar) := ⟨rfl, rfl, rfl, by decide +kernel, rfl, by decide +kernel, by decide +kernel⟩
theorem ok_Par {f : Addr} {fd : FuncData} (F : Fun K "is_parents" "is_parents" sPar f fd) (B : Bl mg) {fn : Addr} {fdn : FuncData} (Gn : FnOk P w K mg base CX0 2 fn fdn ["value", "many"] (spNum K)) (gn : mg "is_number" = some (.ref fn)) (kn : PySem.W.keepIn K (.ref fn) = true) (bn : Binds K fdn ["value", "many"] []) : FnOk P w K mg base CX0 3 f fd ["value", "many"] (spPar K) := by
  refine F.ok scPar (fun vs H Q E h => ?_) (fun cdv A outer s H vs Q E hr h => ?_)
  · obtain ⟨v, d, many, rfl, _⟩ := h
    rfl
  · obtain ⟨v, d, many, rfl, h1, tm, k⟩ := h
    refine ⟨_, pss_cons (ps_if (pt_not (pt_val (pe_callB call_isi (by rfl) (B "isinstance" (by decide)) (by decide +kernel) (pa_cons (pv 0) (pa_cons (pe_bltn (v := .ty "tuple") rfl (B "tuple" (by decide)) (by decide +kernel) rfl) pa_nil))))) (pss_one (ps_ret pe_bl)) pss_nil)
      (pss_cons (ps_if (pt_not (pt_val (pe_callB (cr_all rfl) (by rfl) (B "all" (by decide)) (by decide +kernel) (pa_cons (pe_lc (own := [("parent", 4)]) (g := gName 4) (tt := tYes) rfl scPar.nd (pi_tup (pv 0)) (blkOk_by (N := ["value", "many", "one", "other", "parent"]) (sc := defScope sPar) (by decide +kernel)) (fun _ _ _ _ _ => pg_name (i := 4) scPar.nd rfl (Or.inl rfl)) (fun _ _ _ _ _ => pts_nil) (fun _ _ _ _ _ => pe_call (E := E0) Gn (hr.mono (by decide)) rfl gn kn bn .nil pass0 (pa_cons (pv 4) (pa_cons (pv 1) pa_nil)))) pa_nil)))) (pss_one (ps_ret pe_bl)) pss_nil)
      (pss_one (ps_ret (pe_callB (cr_all rfl) (by rfl) (B "all" (by decide)) (by decide +kernel) (pa_cons (pe_lc (own := [("one", 2), ("other", 3)]) (g := gTup K 2 (gCons (gName 2) (gCons (gName 3) gNil))) (tt := tYes) rfl scPar.nd (RZ.pi_zipA (by rfl) (B "zip" (by decide)) (pa_cons (pv 0) (pa_cons (pe_slice sl_tupA (pv 0) (po_some pe_int) po_none) pa_nil))) (blkOk_by (N := ["value", "many", "one", "other", "parent"]) (sc := defScope sPar) (by decide +kernel)) (fun _ _ _ _ _ => pg_tup rfl (pgs_cons (pg_name (i := 2) scPar.nd rfl (Or.inl rfl)) (pgs_cons (pg_name (i := 3) scPar.nd rfl (Or.inl rfl)) pgs_nil))) (fun _ _ _ _ _ => pts_nil) (fun _ _ _ _ _ => pe_cmpR op_lt (pv 2) (pv 3) (nomark _))) pa_nil))))), ?_⟩
    refine ⟨_, rfl, _, _, _, _, _, rfl, .ty "tuple", dp_ty h1, kit_d h1 "tuple" (by decide), _, rfl, ?_⟩
    cases e : isK d "tuple" with
    | false =>
      refine LK.ifT rfl ?_
      have := k H (Same.refl H)
      rwa [par_no e] at this
    | true =>
      obtain ⟨a, xs, ds, rfl, rfl, hs, hd⟩ := tup_of h1 e
      have ln : ds.length ≤ 1000 := by
        rw [tame, Bool.and_eq_true] at tm
        exact of_decide_eq_true tm.1
      have xl := dps_len hd
      refine LK.ifF rfl ⟨_, rfl, a, rfl, ⟨xs, hs⟩, fun D nD => ?_⟩
      refine lc_tup (K := K) (a := a) (xs := xs) (fun j H' => H' D = some (.lst (((ds.take j).map (isNumD many)).map V.bl)) ∧ Same H H') ⟨upd_same, same_new nD⟩ (fun i H' hi hh => same_tup hh.2 hs) (fun j x H' hx hh => ⟨rfl, ?_⟩) (fun H' hh => ?_)
      · obtain ⟨hD, s1⟩ := hh
        obtain ⟨x', d, hx', hd', dx⟩ := dps_at hd (i := j) (by rw [← xl]; exact (List.getElem?_eq_some_iff.mp hx).1)
        obtain rfl : x = x' := by
          rw [hx] at hx'
          exact Option.some.inj hx'
        refine ⟨_, rfl, _, rfl, x, d, many, rfl, dp_same s1 dx, fun H2 s4 => ⟨_, s4 _ _ hD, ?_, ?_, fun b o eb => ?_⟩⟩
        · rw [List.length_map, List.length_map, List.length_take]
          exact Nat.lt_of_lt_of_le (by omega : _ < 2000) (by decide)
        · rw [upd_same, List.take_succ, hd', List.map_append, List.map_append]
          rfl
        · rw [upd_ne (ne_of_none eb nD)]
          exact s4 b o (s1 b o eb)
      · obtain ⟨hD, s1⟩ := hh
        rw [xl, List.take_length] at hD
        refine ⟨D, _, rfl, SqL.of hD, _, rfl, ?_⟩
        rw [List.all_map]
        show (fun b H1 => if b = true then _ else _) (!(ds.all (isNumD many))) H'
        cases e1 : ds.all (isNumD many) with
        | false =>
          refine LK.ifT rfl ?_
          have := k H' s1
          rw [isParD, e1, Bool.false_and] at this
          exact this
        | true =>
          refine LK.ifF rfl ?_
          have s1' := s1
          obtain ⟨ns, n1, n2⟩ := nums_take (many := many) (k := ds.length) hd fun j hj d e => List.all_eq_true.mp e1 d (List.mem_of_getElem? e)
          rw [List.take_length] at n2
          rw [← xl, List.take_length] at n1
          subst n1
          subst n2
          refine ⟨_, rfl, _, rfl, 1, rfl, a, _, rfl, same_tup s1 hs, fun hw => ?_, fun hw p np => ?_⟩
          · have n0 : ns = [] := by
              have := hw.1
              rw [show HT.sIx (ns.map V.int).length 0 (some 1) = min 1 (ns.map V.int).length from HT.sIx_nat _ _ 1, List.length_map] at this
              exact List.length_eq_zero_iff.mp (by omega)
            have s2 := s1
            have hb : SqT K H' a ((ns.map V.int).drop 1) := by
              subst n0
              exact same_tup s1 hs
            refine ⟨a, a, _, _, rfl, .inr ⟨same_tup s2 hs, hb, fun D2 nD2 => ?_⟩⟩
            refine lc_zipT (K := K) (xs := ns.map V.int) (ys := (ns.map V.int).drop 1) (by rw [List.length_drop]; omega) (fun j H' => H' D2 = some (.lst (((List.range j).map (ltAt (ns.map PyData.int))).map V.bl)) ∧ Same H H' ∧ SqT K H' a ((ns.map V.int).drop 1)) ⟨upd_same, fun b o e => same_new nD2 b o (s2 b o e), same_tup (same_new nD2) hb⟩ (fun j H' hh => ⟨same_tup hh.2.1 hs, hh.2.2⟩) (fun j x y T H2 hx hy hh nT => ?_) (fun H2 hh => ?_)
            · obtain ⟨hD2, s3, hb3⟩ := hh
              rw [List.getElem?_drop, List.getElem?_map] at hy
              rw [List.getElem?_map] at hx
              obtain ⟨p1, q1, rfl⟩ := Option.map_eq_some_iff.mp hx
              obtain ⟨p2, q2, rfl⟩ := Option.map_eq_some_iff.mp hy
              rw [Nat.add_comm] at q2
              have s4 := same_new (o := .tup [.int p1, .int p2]) nT
              have jl : j < ns.length := (List.getElem?_eq_some_iff.mp q1).1
              have lt : ltAt (ns.map PyData.int) j = decide (p1 < p2) := by
                unfold ltAt
                rw [List.getElem?_map, List.getElem?_map, q1, q2]
                rfl
              have nl : ns.length ≤ 1000 := by
                rw [List.length_map] at ln
                exact ln
              have e2 := s4 _ _ hD2
              refine ⟨T, _, rfl, .inl (.inl upd_same), rfl, _, _, rfl, _, _, rfl, rfl, rfl, ?_⟩
              refine ⟨_, rfl, _, rfl, p1, p2, rfl, rfl, _, e2, ?_, ?_, fun b o eb => ?_, ?_⟩
              · rw [List.length_map, List.length_map, List.length_range]
                exact Nat.lt_of_lt_of_le (by omega : _ < 2000) (by decide)
              · rw [upd_same, List.range_succ, List.map_append, List.map_append]
                show _ = some (HO.lst (_ ++ [V.bl (ltAt (ns.map PyData.int) j)]))
                rw [lt]
              · by_cases eD : b = D2
                · subst eD
                  exact absurd (s2 _ _ eb) (by rw [nD2]; exact fun z => nomatch z)
                · rw [upd_ne eD]
                  exact s4 b o (s3 b o eb)
              · exact sqT_tk (Tk.own e2) (same_tup s4 hb3)
            · obtain ⟨hD2, s3, hb3⟩ := hh
              refine ⟨D2, _, rfl, SqL.of hD2, ?_⟩
              have := k H2 s3
              rw [isParD, e1, Bool.true_and, rise] at this
              rw [List.all_map]
              rw [List.length_map] at this
              rw [List.length_drop, List.length_map]
              exact this
          · have s2 : Same H (L2.upd H' p (.tup (cutV (ns.map V.int) (some 1) none))) := fun b o e => same_new (o := .tup (cutV (ns.map V.int) (some 1) none)) np b o (s1 b o e)
            have cd : cutV (ns.map V.int) (some 1) none = (ns.map V.int).drop 1 := by
              unfold cutV
              rw [show HT.sIx (ns.map V.int).length 0 (some 1) = min 1 (ns.map V.int).length from HT.sIx_nat _ _ 1, HT.sIx_none]
              cases ns with
              | nil => rfl
              | cons n r =>
                rw [show min 1 ((n :: r).map V.int).length = 1 by simp]
                exact List.take_of_length_le (by simp)
            have hb : SqT K (L2.upd H' p (.tup (cutV (ns.map V.int) (some 1) none))) p ((ns.map V.int).drop 1) := by
              refine .inl (.inl ?_)
              rw [upd_same, cd]
            refine ⟨a, p, _, _, rfl, .inr ⟨same_tup s2 hs, hb, fun D2 nD2 => ?_⟩⟩
            refine lc_zipT (K := K) (xs := ns.map V.int) (ys := (ns.map V.int).drop 1) (by rw [List.length_drop]; omega) (fun j H' => H' D2 = some (.lst (((List.range j).map (ltAt (ns.map PyData.int))).map V.bl)) ∧ Same H H' ∧ SqT K H' p ((ns.map V.int).drop 1)) ⟨upd_same, fun b o e => same_new nD2 b o (s2 b o e), same_tup (same_new nD2) hb⟩ (fun j H' hh => ⟨same_tup hh.2.1 hs, hh.2.2⟩) (fun j x y T H2 hx hy hh nT => ?_) (fun H2 hh => ?_)
            · obtain ⟨hD2, s3, hb3⟩ := hh
              rw [List.getElem?_drop, List.getElem?_map] at hy
              rw [List.getElem?_map] at hx
              obtain ⟨p1, q1, rfl⟩ := Option.map_eq_some_iff.mp hx
              obtain ⟨p2, q2, rfl⟩ := Option.map_eq_some_iff.mp hy
              rw [Nat.add_comm] at q2
              have s4 := same_new (o := .tup [.int p1, .int p2]) nT
              have jl : j < ns.length := (List.getElem?_eq_some_iff.mp q1).1
              have lt : ltAt (ns.map PyData.int) j = decide (p1 < p2) := by
                unfold ltAt
                rw [List.getElem?_map, List.getElem?_map, q1, q2]
                rfl
              have nl : ns.length ≤ 1000 := by
                rw [List.length_map] at ln
                exact ln
              have e2 := s4 _ _ hD2
              refine ⟨T, _, rfl, .inl (.inl upd_same), rfl, _, _, rfl, _, _, rfl, rfl, rfl, ?_⟩
              refine ⟨_, rfl, _, rfl, p1, p2, rfl, rfl, _, e2, ?_, ?_, fun b o eb => ?_, ?_⟩
              · rw [List.length_map, List.length_map, List.length_range]
                exact Nat.lt_of_lt_of_le (by omega : _ < 2000) (by decide)
              · rw [upd_same, List.range_succ, List.map_append, List.map_append]
                show _ = some (HO.lst (_ ++ [V.bl (ltAt (ns.map PyData.int) j)]))
                rw [lt]
              · by_cases eD : b = D2
                · subst eD
                  exact absurd (s2 _ _ eb) (by rw [nD2]; exact fun z => nomatch z)
                · rw [upd_ne eD]
                  exact s4 b o (s3 b o eb)
              · exact sqT_tk (Tk.own e2) (same_tup s4 hb3)
            · obtain ⟨hD2, s3, hb3⟩ := hh
              refine ⟨D2, _, rfl, SqL.of hD2, ?_⟩
              have := k H2 s3
              rw [isParD, e1, Bool.true_and, rise] at this
              rw [List.all_map]
              rw [List.length_map] at this
              rw [List.length_drop, List.length_map]
              exact this
end
end T6
namespace T6
open PySem PySem.Spec PyProof.Rows L2 LK RZ
theorem lay_mem : ∀ {ds : List PyData} {d : PyData}, PyData.canLayAll0 ds = true → d ∈ ds → d.canLay0 = true
  | x :: r, d, h, e => by
    rw [PyData.canLayAll0, Bool.and_eq_true] at h
    rcases List.mem_cons.mp e with rfl | e
    · exact h.1
    · exact lay_mem h.2 e
theorem loop_two {number : Int} {ds : List PyData} (h : ds.length ≠ 2) : isLoopD number (.tuple ds) = false := by
  match ds, h with
  | [], _ => rfl
  | [_], _ => rfl
  | [_, _], h => exact absurd rfl h
  | _ :: _ :: _ :: _, _ => rfl
theorem dps_two {K : PySem.W.Frag} {H : Hp} {xs : List V} {ds : List PyData} (h : DpAll K H xs ds) (l : ds.length = 2) : ∃ x y d e, xs = [x, y] ∧ ds = [d, e] ∧ Dp K H x d ∧ Dp K H y e := by
  cases h with
  | nil => cases l
  | cons a r =>
    cases r with
    | nil => cases l
    | cons b r =>
      cases r with
      | nil => exact ⟨_, _, _, _, rfl, rfl, a, b⟩
      | cons _ _ => simp at l
section
variable {P : Program} {w : World} {K : PySem.W.Frag} {mg : Str → Option Value} {base : Heap}
abbrev sIsLoop : Stmt := top 18
theorem scIsLoop : FnScope ["value", "number", "thread", "parents"] ["value", "number"] (defScope sIsLoop) := ⟨rfl, rfl, rfl, by decide +kernel, rfl, by decide +kernel, by decide +kernel⟩
theorem ok_IsLoop {f : Addr} {fd : FuncData} (F : Fun K "is_loop" "is_loop" sIsLoop f fd) (B : Bl mg) {ft : Addr} {fdt : FuncData} (Gt : FnOk P w K mg base CX0 1 ft fdt ["value"] (spThr K)) (gt : mg "is_thread" = some (.ref ft)) (kt : PySem.W.keepIn K (.ref ft) = true) (bt : Binds K fdt ["value"] []) {fp : Addr} {fdp : FuncData} (Gp : FnOk P w K mg base CX0 3 fp fdp ["value", "many"] (spPar K)) (gp : mg "is_parents" = some (.ref fp)) (kp : PySem.W.keepIn K (.ref fp) = true) (bp : Binds K fdp ["value", "many"] []) : FnOk P w K mg base CX0 4 f fd ["value", "number"] (spLoop K) := by
  refine F.ok scIsLoop (fun vs H Q E h => ?_) (fun cdv A outer s H vs Q E hr h => ?_)
  · obtain ⟨v, d, many, rfl, _⟩ := h
    rfl
  · obtain ⟨v, d, many, rfl, h1, tm, lay, k⟩ := h
    refine ⟨_, pss_cons (ps_if (PW.pt (pw_or (pt_not (pt_val (pe_callB call_isi (by rfl) (B "isinstance" (by decide)) (by decide +kernel) (pa_cons (pv 0) (pa_cons (pe_bltn (v := .ty "tuple") rfl (B "tuple" (by decide)) (by decide +kernel) rfl) pa_nil))))) (pw_or1 (pt_cmpR op_ne (pe_callB call_len_seq (by rfl) (B "len" (by decide)) (by decide +kernel) (pa_cons (pv 0) pa_nil)) pe_int (nomark _))))) (pss_one (ps_ret pe_bl)) pss_nil)
      (pss_cons (ps_asg (pv 0) (pg_tup rfl (pgs_cons (pg_name (i := 2) scIsLoop.nd rfl (Or.inl rfl)) (pgs_cons (pg_name (i := 3) scIsLoop.nd rfl (Or.inl rfl)) pgs_nil))))
      (pss_one (ps_ret (pe_and (pe_call (E := E0) Gt (hr.mono (by decide)) rfl gt kt bt .nil pass0 (pa_cons (pv 2) pa_nil)) (pe_one (pe_call (E := E0) Gp (hr.mono (by decide)) rfl gp kp bp .nil pass0 (pa_cons (pv 3) (pa_cons (pv 1) pa_nil)))))))), ?_⟩
    refine ⟨_, rfl, _, _, _, _, _, rfl, .ty "tuple", dp_ty h1, kit_d h1 "tuple" (by decide), _, rfl, ?_⟩
    have kk := k H (Same.refl H)
    cases e : isK d "tuple" with
    | false =>
      refine LK.ifT rfl (LK.ifT rfl ?_)
      rwa [loop_no e] at kk
    | true =>
      obtain ⟨a, xs, ds, rfl, rfl, hs, hd⟩ := tup_of h1 e
      rw [tame, Bool.and_eq_true] at tm
      have xl := dps_len hd
      have lay' : PyData.canLayAll0 ds = true := by simpa only [PyData.canLay0] using lay
      refine LK.ifF rfl ⟨_, rfl, a, xs, rfl, .inr hs, rfl, _, rfl, ?_⟩
      by_cases l2 : ds.length = 2
      · refine LK.ifF ?_ ?_
        · rw [xl, l2]
          decide
        obtain ⟨x, y, d1, d2, rfl, rfl, hx, hy⟩ := dps_two hd l2
        refine ⟨_, rfl, a, _, rfl, hs, rfl, _, _, rfl, _, _, rfl, rfl, ?_⟩
        have m1 : d1 ∈ [d1, d2] := by simp
        have m2 : d2 ∈ [d1, d2] := by simp
        refine ⟨_, rfl, x, d1, rfl, hx, tame_mem tm.2 m1, lay_mem lay' m1, fun H1 s1 => ⟨_, rfl, ?_⟩⟩
        cases e1 : isThrD d1 with
        | false =>
          refine LK.ifF rfl ?_
          have := k H1 s1
          rwa [isLoopD, e1, Bool.false_and] at this
        | true =>
          refine LK.ifT rfl ⟨_, rfl, _, rfl, y, d2, many, rfl, dp_same s1 hy, tame_mem tm.2 m2, fun H2 s2 => ?_⟩
          have := k H2 (fun b o e => s2 b o (s1 b o e))
          rwa [isLoopD, e1, Bool.true_and] at this
      · refine LK.ifT ?_ ?_
        · rw [xl]
          have : ¬ V.int (ds.length : Nat) = V.int 2 := fun z => by
            have := V.int.inj z
            omega
          simp [this]
        · rwa [loop_two l2] at kk
end
end T6
namespace T6
open PySem PySem.Spec PyProof.Rows L2 LK RZ
def loopBad (ds : List PyData) (k : Nat) : Bool := match ds[k]? with
  | some d => !isLoopD k d
  | none => false
def loopsFault : PyData → Option Int
  | .list ds => ((List.range ds.length).find? (loopBad ds)).map fun k : Nat => (k : Int)
  | _ => some (-1)
def spLoops (K : PySem.W.Frag) : Sp := fun vs H Q _ => ∃ (v : V) (d : PyData), vs = [v] ∧ Dp K H v d ∧ tame d = true ∧ d.canLay0 = true ∧ d.depth ≤ 50 ∧ ∀ H', Same H H' → Q (optV (loopsFault d)) H'
theorem loops_no {d : PyData} (e : isK d "list" = false) : loopsFault d = some (-1) := by
  cases d <;> first | rfl | exact absurd (show isK (.list []) "list" = false from e) (by decide +kernel)
theorem loopBad_at {ds : List PyData} {k : Nat} {d : PyData} (e : ds[k]? = some d) : loopBad ds k = !isLoopD k d := by
  unfold loopBad
  rw [e]
theorem thr_str {d : PyData} (h : isThrD d = true) : ∃ z, d = .str z := by
  cases d <;> first | exact ⟨_, rfl⟩ | exact absurd h (by simp [isThrD])
theorem depth_mem : ∀ {ds : List PyData} {d : PyData}, d ∈ ds → d.depth ≤ PyData.depthAll ds
  | x :: r, d, e => by
    simp only [PyData.depthAll]
    rcases List.mem_cons.mp e with rfl | e
    · omega
    · have := depth_mem e
      omega
theorem lay_filter (f : PyData → Bool) : ∀ {ds : List PyData}, PyData.canLayAll0 ds = true → PyData.canLayAll0 (ds.filter f) = true ∧ PyData.depthAll (ds.filter f) ≤ PyData.depthAll ds
  | [], _ => ⟨rfl, Nat.le_refl _⟩
  | x :: r, h => by
    rw [PyData.canLayAll0, Bool.and_eq_true] at h
    obtain ⟨a, b⟩ := lay_filter f h.2
    rw [List.filter_cons]
    split
    · constructor
      · rw [PyData.canLayAll0, h.1, a]
        rfl
      · simp only [PyData.depthAll]
        omega
    · refine ⟨a, ?_⟩
      simp only [PyData.depthAll]
      omega
theorem eqv_nilg (es : List PyData) : PyData.eqv (.list es) (.list []) = es.isEmpty := by
  cases es with
  | nil => rfl
  | cons y r => rfl
section
variable {P : Program} {w : World} {K : PySem.W.Frag} {mg : Str → Option Value} {base : Heap}
end
end T6
namespace T6
open PySem PySem.Spec PyProof.Rows L2 LK RZ
/-- what Cloth of d and e raises: the error's short name, its value -/
def dueD (d e : PyData) : Option (Str × Int) := match loopsFault d with
  | some i => some ("loops", i)
  | none => match d with
    | .list ds => (lotFault ds.length e).map fun i => (("fast" : Str), i)
    | _ => none
def spDue (K : PySem.W.Frag) : Sp := fun vs H Q _ => ∃ (v u : V) (d e : PyData), vs = [v, u] ∧ Dp K H v d ∧ Dp K H u e ∧ tame d = true ∧ d.canLay0 = true ∧ d.depth ≤ 50 ∧ tame e = true ∧
  (∀ H', Same H H' → dueD d e = none → Q .non H') ∧ ∀ H' p nm i, H p = none → Same H H' → H' p = some (.tup [.str nm, .int i]) → dueD d e = some (nm, i) → Q (.ref p) H'
theorem loops_none {d : PyData} (h : loopsFault d = none) : ∃ ds, d = .list ds := by
  cases d <;> first | exact ⟨_, rfl⟩ | exact absurd h (by simp [loopsFault])
section
variable {P : Program} {w : World} {K : PySem.W.Frag} {mg : Str → Option Value} {base : Heap}
end
end T6
namespace T6
open PySem PySem.Spec PyProof.Rows L2 L2H LK RZ MXb MXd MXe MXf
theorem _root_.L2.Fun.okC {P : Program} {w : World} {K : PySem.W.Frag} {mg : Str → Option Value} {base : Heap} {CX : CXT} {x qual : Str} {st : Stmt} {f : Addr} {fd : FuncData} {N ps : List Str} {k : Nat} {sp : Sp} (F : Fun K x qual st f fd) (S : FnScope N ps (defScope st))
    (len : ∀ vs H Q E, sp vs H Q E → vs.length = ps.length)
    (body : ∀ (cdv : Value) (A : Around) (outer : List Env) (s : Shared) (H : Hp) (vs : List V) (Q : VK) (E : XK), Room k (A.deeper (envOfC qual (defScope st) s.heap.objs.size f cdv)) → sp vs H Q E →
      ∃ t, PSs (cxOf CX P w K mg base N qual (defScope st) f cdv A outer s H E) (defBody st) t ∧ t { nx := fun _ H' => Q .non H', rt := Q } (start N vs) H) : FnOk P w K mg base CX (k + 1) f fd ps sp := by
  obtain ⟨oc, od, kV, doc, pm, an, cdv, ct, osl, rfl, lk, hcd⟩ := F.ex
  exact fn_of lk hcd S len fun A outer s H vs Q E room q => body cdv A outer s H vs Q E room q
abbrev sInit : Stmt := inClass (top 2) 0
/-- the error of class C, its value y, leaves -/
def Out (C : Addr) (H : Hp) (E : XK) (y : V) : Prop := ∀ (d : Addr) (H' : Hp), H d = none → Same H H' → H' d = some (.xd [("value", y)]) → E (.ref C) (some d) H'
def spChkF (K : PySem.W.Frag) (CF : Addr) : Sp := fun vs H Q E => ∃ (v : V) (d : PyData) (many : Int), vs = [v, .int many] ∧ Dp K H v d ∧ tame d = true ∧ (lotFault many d = none → ∀ H', Same H H' → Q .non H') ∧ ∀ i, lotFault many d = some i → Out CF H E (.int i)
def spChkL (K : PySem.W.Frag) (CL : Addr) : Sp := fun vs H Q E => ∃ (v : V) (d : PyData), vs = [v] ∧ Dp K H v d ∧ tame d = true ∧ d.canLay0 = true ∧ (loopsFault d = none → ∀ H', Same H H' → Q .non H') ∧ ∀ i, loopsFault d = some i → Out CL H E (.int i)
structure Ini (P : Program) (w : World) (K : PySem.W.Frag) (mg : Str → Option Value) (base : Heap) (fI : Addr) (fdI : FuncData) : Prop where
  ok : FnOk P w K mg base CX0 1 fI fdI ["self", "value"] (spInit K "value")
  bd : Bind1 K fdI "value"
section
variable {P : Program} {w : World} {K : PySem.W.Frag} {mg : Str → Option Value} {base : Heap} {fI CF CL : Addr} {fdI : FuncData}
theorem Out.go {C : Addr} {H H1 : Hp} {E : XK} {y : V} (o : Out C H E y) (s : Same H H1) : ∀ d, H1 d = none → E (.ref C) (some d) (upd H1 d (.xd [("value", y)])) := fun d nd => by
  refine o d _ ?_ (fun b u e => same_new nd b u (s b u e)) upd_same
  cases e : H d with
  | none => rfl
  | some u => rw [s _ _ e] at nd; cases nd
theorem scI : FnScope ["self", "value"] ["self", "value"] (defScope sInit) := ⟨rfl, rfl, rfl, by decide +kernel, rfl, by decide +kernel, by decide +kernel⟩
theorem ok_init {f : Addr} {fd : FuncData} (F : Fun K "__init__" "RunError.__init__" sInit f fd) : FnOk P w K mg base CX0 1 f fd ["self", "value"] (spInit K "value") := by
  refine F.ok scI (fun vs H Q E h => ?_) (fun cdv A outer s H vs Q E hr h => ?_)
  · obtain ⟨e, C, y, rfl, _⟩ := h
    rfl
  · obtain ⟨e, C, y, rfl, T, no, he, k⟩ := h
    exact ⟨_, pss_one (ps_ost (pv 0) (pv 1)), ⟨_, rfl, _, rfl, e, C, rfl, T, no, .inl ⟨he, k⟩⟩⟩
abbrev sChkF : Stmt := top 20
theorem scChkF : FnScope ["fast", "many", "index"] ["fast", "many"] (defScope sChkF) := ⟨rfl, rfl, rfl, by decide +kernel, rfl, by decide +kernel, by decide +kernel⟩
theorem ok_ChkF {f : Addr} {fd : FuncData} (F : Fun K "check_fast" "check_fast" sChkF f fd) (B : Bl mg) {fo : Addr} {fdo : FuncData} (Go : FnOk P w K mg base CX0 3 fo fdo ["numbers", "many"] (spLot K)) (go : mg "wrong_number" = some (.ref fo)) (ko : PySem.W.keepIn K (.ref fo) = true) (bo : Binds K fdo ["numbers", "many"] []) (I : Ini P w K mg base fI fdI) (TF : XC K mg fI CF "InvalidFast" "value") : FnOk P w K mg base (L2N.CX P w) 4 f fd ["fast", "many"] (spChkF K CF) := by
  refine F.okC scChkF (fun vs H Q E h => ?_) (fun cdv A outer s H vs Q E hr h => ?_)
  · obtain ⟨v, d, many, rfl, _⟩ := h
    rfl
  · obtain ⟨v, d, many, rfl, h1, tm, k1, k2⟩ := h
    refine ⟨_, pss_cons (ps_set (i := 2) scChkF.nd rfl (Or.inl rfl) (pe_call (E := E0) Go (hr.mono (by decide)) rfl go ko bo .nil pass0 (pa_cons (pv 0) (pa_cons (pv 1) pa_nil))))
      (pss_one (ps_if (pt_cmpR op_notN (pv 2) pe_non (nomark _)) (pss_one (L2N.ps_raise rfl (L2N.takes_of rfl rfl rfl rfl) (pmk1 TF I.ok I.bd (hr.mono (by decide)) rfl (pv 2)))) pss_nil)), ?_⟩
    refine ⟨_, rfl, _, rfl, v, d, many, rfl, h1, tm, fun H1 s1 => ?_⟩
    cases e1 : lotFault many d with
    | none => exact ⟨_, rfl, rfl, _, rfl, LK.ifF (show (!decide (V.non = V.non)) = false by simp) (k1 e1 H1 s1)⟩
    | some i =>
      refine ⟨_, rfl, rfl, _, rfl, LK.ifT (show (!decide (V.int i = V.non)) = true by simp) ?_⟩
      exact ⟨_, rfl, (k2 i e1).go s1⟩
abbrev sChkL : Stmt := top 19
theorem scChkL : FnScope ["loops", "number", "loop"] ["loops"] (defScope sChkL) := ⟨rfl, rfl, rfl, by decide +kernel, rfl, by decide +kernel, by decide +kernel⟩
theorem ok_ChkL {f : Addr} {fd : FuncData} (F : Fun K "check_loops" "check_loops" sChkL f fd) (B : Bl mg) {fo : Addr} {fdo : FuncData} (Go : FnOk P w K mg base CX0 4 fo fdo ["value", "number"] (spLoop K)) (go : mg "is_loop" = some (.ref fo)) (ko : PySem.W.keepIn K (.ref fo) = true) (bo : Binds K fdo ["value", "number"] []) (I : Ini P w K mg base fI fdI) (TL : XC K mg fI CL "InvalidLoops" "value") : FnOk P w K mg base (L2N.CX P w) 5 f fd ["loops"] (spChkL K CL) := by
  refine F.okC scChkL (fun vs H Q E h => ?_) (fun cdv A outer s H vs Q E hr h => ?_)
  · obtain ⟨v, d, rfl, _⟩ := h
    rfl
  · obtain ⟨v, d, rfl, h1, tm, lay, k1, k2⟩ := h
    refine ⟨_, pss_cons (ps_if (pt_not (pt_val (pe_callB call_isi (by rfl) (B "isinstance" (by decide)) (by decide +kernel) (pa_cons (pv 0) (pa_cons (pe_bltn (v := .ty "list") rfl (B "list" (by decide)) (by decide +kernel) rfl) pa_nil))))) (pss_one (L2N.ps_raise rfl (L2N.takes_of rfl rfl rfl rfl) (pmk1 TL I.ok I.bd (hr.mono (by decide)) rfl (pe_un un_neg pe_int)))) pss_nil)
      (pss_one (ps_for (passes_of rfl) rfl (pi_enum (by rfl) (B "enumerate" (by decide)) (pa_cons (pv 0) pa_nil)) (pg_tup rfl (pgs_cons (pg_name (i := 1) scChkL.nd rfl (Or.inl rfl)) (pgs_cons (pg_name (i := 2) scChkL.nd rfl (Or.inl rfl)) pgs_nil))) (pss_one (ps_if (pt_not (pt_val (pe_call (E := E0) Go (hr.mono (by decide)) rfl go ko bo .nil pass0 (pa_cons (pv 2) (pa_cons (pv 1) pa_nil))))) (pss_one (L2N.ps_raise rfl (L2N.takes_of rfl rfl rfl rfl) (pmk1 TL I.ok I.bd (hr.mono (by decide)) rfl (pv 1)))) pss_nil)))), ?_⟩
    refine ⟨_, rfl, _, _, _, _, _, rfl, .ty "list", dp_ty h1, kit_d h1 "list" (by decide), _, rfl, ?_⟩
    cases e : isK d "list" with
    | false =>
      refine LK.ifT rfl ⟨1, rfl, (k2 _ (loops_no e)).go (Same.refl H)⟩
    | true =>
      obtain ⟨a, xs, ds, rfl, rfl, hs, hd⟩ := list_of h1 e
      rw [tame, Bool.and_eq_true] at tm
      have lay' : PyData.canLayAll0 ds = true := by simpa only [PyData.canLay0] using lay
      have xl := dps_len hd
      refine LK.ifF rfl ⟨_, rfl, a, xs, rfl, hs, ?_⟩
      refine for_enum (xs := xs) (fun i σ H' => ∃ (o1 o2 : Option V), σ = [some (.ref a), o1, o2] ∧ (∀ k < i, loopBad ds k = false) ∧ Same H H')
        ⟨_, _, rfl, fun k h => absurd h (Nat.not_lt_zero _), Same.refl H⟩ (fun i σ H' h => h.choose_spec.choose_spec.2.2.seq hs) (fun i x T σ H' hx hI nT => ?_) (fun σ H' hI => ?_)
      · obtain ⟨o1, o2, rfl, hb, s1⟩ := hI
        obtain ⟨x', d, hx', hd', dx⟩ := dps_at hd (i := i) (by rw [← xl]; exact (List.getElem?_eq_some_iff.mp hx).1)
        obtain rfl : x = x' := by
          rw [hx] at hx'
          exact Option.some.inj hx'
        have il : i < ds.length := by
          rw [← xl]
          exact (List.getElem?_eq_some_iff.mp hx).1
        have dm : d ∈ ds := List.mem_of_getElem? hd'
        have s3 : Same H _ := fun b o e => same_new (o := .tup [.int (i : Nat), x]) nT b o (s1 b o e)
        refine ⟨T, _, rfl, .inl (.inl upd_same), rfl, _, _, rfl, _, _, rfl, rfl, ?_⟩
        refine ⟨_, rfl, _, rfl, x, d, (i : Int), rfl, dp_same s3 dx, tame_mem tm.2 dm, lay_mem lay' dm, fun H2 s4 => ⟨_, rfl, ?_⟩⟩
        have s5 : Same H H2 := fun b o e => s4 b o (s3 b o e)
        cases e1 : isLoopD i d with
        | false =>
          refine LK.ifT rfl ⟨_, rfl, (k2 (i : Int) ?_).go s5⟩
          rw [loopsFault, find_at il hb (by rw [loopBad_at hd', e1]; rfl)]
          rfl
        | true =>
          refine LK.ifF rfl ⟨_, _, rfl, fun k' hk' => ?_, s5⟩
          by_cases ek : k' = i
          · subst ek
            rw [loopBad_at hd', e1]
            rfl
          · exact hb k' (by omega)
      · obtain ⟨o1, o2, rfl, hb, s1⟩ := hI
        refine k1 ?_ H' s1
        rw [loopsFault, find_all (fun j hj => hb j (by omega))]
        rfl
end
end T6
namespace T6
open PySem PySem.Spec PyProof.Rows L2 L2H LK RZ MXb MXd MXe MXf
abbrev sClo : Stmt := inClass (top 22) 0
/-- all but p stays -/
def But (p : Addr) (H H' : Hp) : Prop := ∀ b o, b ≠ p → H b = some o → H' b = some o
/-- __init__ at x: what it raises, or the loops of its own and the sorted fast ones -/
def spClo (K : PySem.W.Frag) (CC CF CL : Addr) : Sp := fun vs H Q E => ∃ (x dx : Addr) (u v : V) (d e : PyData), vs = [.ref x, u, v] ∧ H x = some (.ins CC dx []) ∧ Cls K CC ∧ NoAttr K CC "_loops" ∧ NoAttr K CC "_fast" ∧ Dp K H u d ∧ Dp K H v e ∧ tame d = true ∧ d.canLay0 = true ∧ tame e = true ∧
  (∀ i, dueD d e = some (("loops" : Str), i) → Out CL H E (.int i)) ∧ (∀ i, dueD d e = some (("fast" : Str), i) → Out CF H E (.int i)) ∧
  ∀ (ds : List PyData) (ns ms : List Int) (L G : Addr) (H' : Hp) (xs : List V), dueD d e = none → d = .list ds → e = .list (ns.map PyData.int) → ms.Perm ns → ms.Pairwise (· ≤ ·) → H L = none → H G = none → L ≠ G → H' x = some (.ins CC dx [("_loops", .ref L), ("_fast", .ref G)]) → H' L = some (.lst xs) → DpAll K H xs ds → H' G = some (.lst (ms.map V.int)) → But x H H' → Q .non H'
theorem sql_but {K : PySem.W.Frag} {H H' : Hp} {x a C dx : Addr} {fs : List (Str × V)} {xs : List V} (hx : H x = some (.ins C dx fs)) (s : But x H H') (h : SqL K H a xs) : SqL K H' a xs := by
  rcases h with (h | ⟨o, h⟩) | h
  · exact .inl (.inl (s _ _ (ne_of h hx (by intro q; cases q)) h))
  · exact .inl (.inr ⟨o, s _ _ (ne_of h hx (by intro q; cases q)) h⟩)
  · exact .inr h
theorem But.of {x : Addr} {H H' : Hp} (s : Same H H') : But x H H' := fun b o _ e => s b o e
theorem But.trans {x : Addr} {H H1 H2 : Hp} (a : But x H H1) (b : But x H1 H2) : But x H H2 := fun c o n e => b c o n (a c o n e)
theorem But.put {x : Addr} {H : Hp} {o : HO} : But x H (L2.upd H x o) := fun b u n e => by
  rw [upd_ne n]
  exact e
theorem Out.more {C : Addr} {H H1 : Hp} {E : XK} {y : V} (o : Out C H E y) (s : Same H H1) : Out C H1 E y := fun d H' nd s' e => by
  refine o d H' ?_ (fun b u q => s' b u (s b u q)) e
  cases q : H d with
  | none => rfl
  | some u => rw [s _ _ q] at nd; cases nd
theorem lot_none {many : Int} {e : PyData} (h : lotFault many e = none) : ∃ es, e = .list es ∧ ∀ j < es.length, lotBad many es j = false := by
  cases e with
  | list es =>
    refine ⟨es, rfl, fun j hj => ?_⟩
    rw [lotFault] at h
    have h' : (List.range es.length).find? (lotBad many es) = none := by
      cases q : (List.range es.length).find? (lotBad many es) with
      | none => rfl
      | some k => rw [q] at h; cases h
    have := List.find?_eq_none.mp h' j (List.mem_range.mpr hj)
    simpa using this
  | _ => exact absurd h (by simp [lotFault])
section
variable {P : Program} {w : World} {K : PySem.W.Frag} {mg : Str → Option Value} {base : Heap} {CC CF CL : Addr}
theorem scClo : FnScope ["self", "loops", "fast"] ["self", "loops", "fast"] (defScope sClo) := ⟨rfl, rfl, rfl, by decide +kernel, rfl, by decide +kernel, by decide +kernel⟩
theorem ok_Clo {f fA fB : Addr} {fd fdA fdB : FuncData} (F : Fun K "__init__" "Cloth.__init__" sClo f fd) (B : Bl mg)
    (GA : FnOk P w K mg base (L2N.CX P w) 5 fA fdA ["loops"] (spChkL K CL)) (gA : mg "check_loops" = some (.ref fA)) (kA : PySem.W.keepIn K (.ref fA) = true) (bA : Binds K fdA ["loops"] [])
    (GB : FnOk P w K mg base (L2N.CX P w) 4 fB fdB ["fast", "many"] (spChkF K CF)) (gB : mg "check_fast" = some (.ref fB)) (kB : PySem.W.keepIn K (.ref fB) = true) (bB : Binds K fdB ["fast", "many"] []) :
    FnOk P w K mg base (L2N.CX P w) 6 f fd ["self", "loops", "fast"] (spClo K CC CF CL) := by
  refine F.okC scClo (fun vs H Q E h => ?_) (fun cdv A outer s H vs Q E hr h => ?_)
  · obtain ⟨x, dx, u, v, d, e, rfl, _⟩ := h
    rfl
  · obtain ⟨x, dx, u, v, d, e, rfl, hx, hc, nl, nf, hd, he, tm, lay, tme, k1, k2, k3⟩ := h
    refine ⟨_, pss_cons (ps_expr (pe_call (E := E) GA (hr.mono (by decide)) rfl gA kA bA .nil (L2N.passes_call (L2N.takes_of rfl rfl rfl rfl) (fun _ _ _ _ z => z)) (pa_cons (pv 1) pa_nil)))
      (pss_cons (ps_expr (pe_call (E := E) GB (hr.mono (by decide)) rfl gB kB bB .nil (L2N.passes_call (L2N.takes_of rfl rfl rfl rfl) (fun _ _ _ _ z => z)) (pa_cons (pv 2) (pa_cons (pe_callB call_len_seq (by rfl) (B "len" (by decide)) (by decide +kernel) (pa_cons (pv 1) pa_nil)) pa_nil))))
      (pss_cons (ps_fld (pv 0) (pe_callTy call_list_of (by rfl) (B "list" (by decide)) (by decide +kernel) (pa_cons (pv 1) pa_nil)) rfl)
      (pss_one (ps_fld (pv 0) (pe_callB L2.cr_sortedI (by rfl) (B "sorted" (by decide)) (by decide +kernel) (pa_cons (pv 2) pa_nil)) rfl)))), ?_⟩
    refine ⟨_, rfl, u, d, rfl, hd, tm, lay, fun e1 H1 s1 => ?_, fun i e1 => k1 i (by unfold dueD; rw [e1])⟩
    obtain ⟨ds, rfl⟩ := loops_none e1
    obtain ⟨a, xs, ds', rfl, e', hs, hds⟩ := list_of hd rfl
    cases e'
    have xl := dps_len hds
    have du : dueD (.list ds) e = (lotFault ds.length e).map fun i => (("fast" : Str), i) := by
      unfold dueD
      rw [e1]
    refine ⟨_, rfl, _, rfl, a, xs, rfl, .inl (s1.seq hs), v, e, _, rfl, dp_same s1 he, tme, fun e2 H2 s2 => ?_, fun i e2 => ?_⟩
    · rw [xl] at e2
      rw [e2] at du
      have s3 : Same H H2 := fun b o q => s2 b o (s1 b o q)
      obtain ⟨es, rfl, hb⟩ := lot_none e2
      obtain ⟨b, ys, es', rfl, e', hys, hes⟩ := list_of he rfl
      cases e'
      obtain ⟨ns, n1, n2⟩ := nums_take (many := ds.length) (k := es.length) hes fun j hj d q => bad_num (hb j hj) q
      rw [List.take_length] at n2
      rw [← dps_len hes, List.take_length] at n1
      subst n1
      subst n2
      refine ⟨_, rfl, a, xs, rfl, .inl (s3.seq hs), fun L nL => ?_⟩
      have s4 := same_new (o := .lst xs) nL
      have x4 := s4 _ _ (s3 _ _ hx)
      refine ⟨_, rfl, x, CC, dx, [], rfl, x4, hc, nl, by decide, ?_⟩
      have b5 : But x H (L2.upd (L2.upd H2 L (.lst xs)) x (.ins CC dx (putF "_loops" (.ref L) []))) := (But.of fun b o q => s4 b o (s3 b o q)).trans But.put
      refine ⟨_, rfl, b, ns, rfl, sql_but hx b5 hys, fun ms G perm pw nG => ?_⟩
      have xG : x ≠ G := ne_of_none upd_same nG
      have b6 : But x H (L2.upd (L2.upd (L2.upd H2 L (.lst xs)) x (.ins CC dx (putF "_loops" (.ref L) []))) G (.lst (ms.map V.int))) := b5.trans (But.of (same_new nG))
      have x6 := (upd_ne (H := L2.upd (L2.upd H2 L (.lst xs)) x (.ins CC dx (putF "_loops" (.ref L) []))) (o := .lst (ms.map V.int)) xG).trans upd_same
      refine ⟨_, rfl, x, CC, dx, _, rfl, x6, hc, nf, (by show 1 < 1000; decide), ?_⟩
      have nL0 : H L = none := by
        cases q : H L with
        | none => rfl
        | some o => rw [s3 _ _ q] at nL; cases nL
      have Lx : L ≠ x := (ne_of_none (s3 _ _ hx) nL).symm
      have eL5 : (L2.upd (L2.upd H2 L (.lst xs)) x (.ins CC dx (putF "_loops" (.ref L) []))) L = some (.lst xs) := by
        rw [upd_ne Lx]
        exact upd_same
      have LG : L ≠ G := ne_of_none eL5 nG
      have nG0 : H G = none := by
        cases q : H G with
        | none => rfl
        | some o => rw [b5 _ _ (Ne.symm xG) q] at nG; cases nG
      refine k3 ds ns ms L G _ xs (du.trans rfl) rfl rfl perm pw nL0 nG0 LG ?_ ?_ hds ?_ (b6.trans But.put)
      · rw [upd_same]
        rfl
      · rw [upd_ne Lx, upd_ne LG]
        exact eL5
      · rw [upd_ne (Ne.symm xG)]
        exact upd_same
    · rw [xl] at e2
      rw [e2] at du
      exact (k2 i du).more s1
end
end T6
/-! xs[1::-1]: the first two of a list, the second one ahead. -/
namespace MXo
open PySem PySem.Spec PyProof.Rows L2
section
variable {X : Cx}
def tRev1 (K : PySem.W.Frag) (te : TE) : TE := fun σ H Q => te σ H fun x H1 => ∃ a u v r, x = .ref a ∧ SqL K H1 a (u :: v :: r) ∧ ∀ p, H1 p = none → Q (.ref p) (upd H1 p (.lst [v, u]))
theorem pick1 (u v : Value) (r : List Value) : slicePick (u :: v :: r).toArray (some 1) none (some (-1)) = #[v, u] := by
  unfold slicePick
  have e : sliceBounds (some 1) none (some (-1)) (u :: v :: r).toArray.size = (1, -1, -1) := by
    unfold sliceBounds
    simp only [Option.getD_some, List.size_toArray, List.length_cons]
    have : max (-1) (min (1 : Int) (((r.length + 1 + 1 : Nat) : Int) - 1)) = 1 := by omega
    simp [this]
    omega
  rw [e]
  rfl
theorem pe_rev1 {e : Expr} {te : TE} {k k1 : Nat} {p0 p1 p2 p3 pos : Pos} (he : PE X e te) : PE X (.Subscript e (.Slice (some (.Constant (.int 1) k1 p0)) none (some (.UnaryOp .USub (.Constant (.int 1) k p1) p2)) p3) pos) (tRev1 X.K te) := by
  refine ⟨fun pins s σ H Q I h => ?_⟩
  refine Subscript_ (thn (he.run pins s σ H _ I h) fun v s1 ⟨x, H1, I1, r1, q1⟩ => ?_)
  obtain ⟨a, y0, y1, xr, ex, hx, q⟩ := q1
  subst ex
  cases r1
  have hlo : PO X (some (.Constant (.int 1) k1 p0)) (tPart (tC (.int 1))) := po_some pe_int
  have hst : PO X (some (.UnaryOp .USub (.Constant (.int 1) k p1) p2)) (tPart (tUn (rU fun i => .int (-i)) (tC (.int 1)))) := po_some (pe_un un_neg pe_int)
  refine wpAny_Slice (thn (hlo.run pins s1 σ H1 (fun o H2 => o = some 1 ∧ H2 = H1) I1 ⟨1, rfl, rfl, rfl⟩) fun vl s2 ⟨l, H2, I2, pl, el, e2⟩ => ?_)
  subst el e2
  refine thn (po_none.run pins s2 σ H2 (fun o H3 => o = none ∧ H3 = H2) I2 ⟨rfl, rfl⟩) fun vu s3 ⟨u, H3, I3, pu, eu, e3⟩ => ?_
  subst eu e3
  refine thn (hst.run pins s3 σ H3 (fun o H4 => o = some (-1) ∧ H4 = H3) I3 ⟨1, rfl, -1, rfl, rfl, rfl⟩) fun vs s4 ⟨o, H4, I4, ps, eo, e4⟩ => ?_
  subst eo e4
  have I5 : Inv X pins σ H4 { s4 with heap := s4.heap.push { cls := .type "slice", data := .fields #[vl, vu, vs] } } := I4.kept (t' := s4.toks) fun b ob q => Heap.get?_push_of_some _ q
  obtain ⟨its, r, ht, hz⟩ := I5.list hx
  have hlen := r.length
  show wpAny (model X.prog X.w) X.A (subscriptTail e (.Slice (some (.Constant (.int 1) k1 p0)) none (some (.UnaryOp .USub (.Constant (.int 1) k p1) p2)) p3) (.ref a) (.ref s4.heap.objs.size)) (EP X pins σ Q) X.xe { s4 with heap := s4.heap.push { cls := .type "slice", data := .fields #[vl, vu, vs] } }
  refine tail_any (ops := [.ref a, .ref s4.heap.objs.size]) ht.isList.typeIs (PySem.slot_list_getitem.lookup) ?_ (by with_unfolding_all rfl)
  refine wpAny_getItem_list_slice ht.isList (Heap.IsSliceOf.new _ vl vu vs) pl pu ps (by decide) ?_ (by rw [List.size_toArray]; omega)
  cases r with
  | cons r0 r' =>
    cases r' with
    | cons r1 r2 =>
      rw [pick1]
      refine ⟨.ref _, _, I5.laid (t' := s4.toks) (o := .lst [y1, y0]) (fun b ob q => Heap.get?_push_of_some _ q) (Nat.le_refl _) ?_, rfl, q _ (I5.hok.fresh (Nat.le_refl _))⟩
      exact ⟨by show 2 ≤ sizeLine; decide, _, 0, .cons r1 (.cons r0 .nil), Heap.get?_push_size _ rfl⟩
end
end MXo
/-! Sets of ints that set(xs) makes: set(xs), in, not in, add. -/
namespace MXp
open PySem PySem.Spec PyProof.Rows L2
def SetI (P : Program) (w : World) (a : Addr) (S : Int → Bool) (n : Nat) : HO := .ext fun h => h.SetOf (intKind P w) a S n
theorem of_at {P : Program} {w : World} {h h' : Heap} {a : Addr} {S : Int → Bool} {n : Nat} (R : h.SetOf (intKind P w) a S n) (k : ∀ o, h.get? a = some o → h'.get? a = some o) : h'.SetOf (intKind P w) a S n := by
  obtain ⟨o, es, ep, t, e, r⟩ := R
  exact ⟨o, es, ep, t, k o e, r⟩
theorem si_obj {P Pr : Program} {w w' : World} {H : Hp} {h : Heap} {a : Addr} {S : Int → Bool} {n : Nat} (R : h.SetOf (intKind P w) a S n) : ObjOk Pr w' H h a (SetI P w a S n) := by
  have ⟨o, _, _, _, e, _⟩ := R
  exact ⟨R, ⟨o, e⟩, fun h1 h2 p k => of_at p k⟩
section
variable {X : Cx}
theorem si_get {pins : List (Addr × Obj)} {σ : L2.St} {H : Hp} {s : Shared} {a : Addr} {S : Int → Bool} {n : Nat} (I : Inv X pins σ H s) (e : H a = some (SetI X.prog X.w a S n)) : s.heap.SetOf (intKind X.prog X.w) a S n := (I.hok a _ e).1
/-- set(xs), xs a list of ints -/
def rSetOfI (K : PySem.W.Frag) (P : Program) (w : World) : List V → Hp → VK → Prop := fun vs H Q => ∃ (l : Addr) (ns : List Int), vs = [V.ref l] ∧ SqL K H l (ns.map V.int) ∧ ns.length ≤ 4000 ∧
  ∀ (p : Addr) (c : Nat), H p = none → c ≤ ns.length → Q (.ref p) (upd H p (SetI P w p (fun k => decide (k ∈ ns)) c))
theorem met_mem (ns : List Int) (k : Int) : (PyProof.Rows.firstMet (fun i => ns.getD i 0) ns.length).any (· == k) = decide (k ∈ ns) := by
  rw [PyProof.Rows.firstMet_any]
  have e : (List.range ns.length).map (fun i => ns.getD i 0) = ns := by
    apply List.ext_getElem?
    intro i
    rw [List.getElem?_map]
    by_cases h : i < ns.length
    · rw [List.getElem?_range h, List.getElem?_eq_getElem h, Option.map_some, List.getD_eq_getElem?_getD, List.getElem?_eq_getElem h]
      rfl
    · rw [List.getElem?_eq_none (by rw [List.length_range]; omega), List.getElem?_eq_none (by omega)]
      rfl
  rw [e, Bool.eq_iff_iff, List.any_eq_true]
  simp
theorem cr_setOfI (hc : X.calm = true) : CallR X (.type "set") (rSetOfI X.K X.prog X.w) := by
  intro pins s σ H vs us Q I r h
  obtain ⟨l, ns, rfl, hq, hl, q⟩ := h
  rw [Vals.ref1 r]
  obtain ⟨its, rv, pl, hz⟩ := I.list hq
  have hlen : its.toArray.size = ns.length := by rw [List.size_toArray, ← rv.length, List.length_map]
  refine call_set_list (I.ok.hd hc) pl.isList (by simpa using RZ.intsAre_vals rv) (by rw [hlen]; unfold scanBound; omega) fun h' tk hS hk => ?_
  rw [hlen] at hS
  have hS2 := PyProof.Rows.SetOf_congr hS (met_mem ns) rfl
  exact ⟨.ref s.heap.objs.size, upd H s.heap.objs.size (SetI X.prog X.w s.heap.objs.size (fun k => decide (k ∈ ns)) _), I.laid (t' := tk) (fun b o e => hk b o (Heap.lt_size e) e) (Nat.le_refl _) (si_obj hS2), rfl, q _ _ (I.hok.fresh (Nat.le_refl _)) (PyProof.Rows.firstMet_length_le _ _)⟩
def rIIn (P : Program) (w : World) : V → V → Hp → VK → Prop := fun x y H Q => ∃ k a S n, x = V.int k ∧ y = V.ref a ∧ H a = some (SetI P w a S n) ∧ Q (.bl (S k)) H
def rINot (P : Program) (w : World) : V → V → Hp → VK → Prop := fun x y H Q => ∃ k a S n, x = V.int k ∧ y = V.ref a ∧ H a = some (SetI P w a S n) ∧ Q (.bl (!S k)) H
theorem or_iin : OpR X (compareOp .In) (rIIn X.prog X.w) := by
  intro pins s σ H x y v u Q I rx ry h
  obtain ⟨k, a, S, n, rfl, rfl, ha, q⟩ := h
  obtain ⟨tk, rfl⟩ := rx
  cases ry
  exact wpAny_inSet_of (intKind_is _ _ _ _) rfl (si_get I ha) ⟨.bl (S k), H, I.tok _, rfl, q⟩
theorem or_inot : OpR X (compareOp .NotIn) (rINot X.prog X.w) := by
  intro pins s σ H x y v u Q I rx ry h
  obtain ⟨k, a, S, n, rfl, rfl, ha, q⟩ := h
  obtain ⟨tk, rfl⟩ := rx
  cases ry
  exact wpAny_notInSet_of (intKind_is _ _ _ _) rfl (si_get I ha) ⟨.bl (!S k), H, I.tok _, rfl, q⟩
/-- the same in a block, its row said by letters -/
theorem inI {P : Program} {w : World} (e : X.prog = P := by rfl) (e2 : X.w = w := by rfl) : OpR X (compareOp .In) (rIIn P w) := by
  subst e e2
  exact or_iin
theorem ninI {P : Program} {w : World} (e : X.prog = P := by rfl) (e2 : X.w = w := by rfl) : OpR X (compareOp .NotIn) (rINot P w) := by
  subst e e2
  exact or_inot
def rIAdd (P : Program) (w : World) : V → List V → Hp → VK → Prop := fun x xs H Q => ∃ (a : Addr) (k : Int) (S : Int → Bool) (n : Nat), x = V.ref a ∧ xs = [V.int k] ∧ H a = some (SetI P w a S n) ∧ n + 1 < scanBound ∧
  ∀ m, m ≤ n + 1 → Q .non (upd H a (SetI P w a (fun j => S j || decide (j = k)) m))
theorem mt_iadd : MtR X "set.add" (rIAdd X.prog X.w) := by
  intro pins s σ H x xs v us Q I rx rxs h
  obtain ⟨a, k, S, n, rfl, rfl, ha, room, q⟩ := h
  cases rx
  cases rxs with
  | cons ry rt =>
    cases rt
    obtain ⟨tk, rfl⟩ := ry
    have R := si_get I ha
    refine call_set_add (intKind_is _ _ _ _) rfl R room fun h' sb new => ?_
    have he : ∃ u, h'.get? a = some u := by
      have ⟨o, _, _, _, ho, _⟩ := new
      exact ⟨o, ho⟩
    refine ⟨.non, upd H a (SetI X.prog X.w a (fun j => S j || decide (j = k)) (if S k = true then n else n + 1)), I.write (e := a) (t' := s.toks + 1) (by rw [ha]; trivial) (.inl rfl) (fun b u hb hu => (sb.2 b hb).trans hu) he (si_obj new), rfl, q _ ?_⟩
    split <;> omega
def tIAdd (P : Program) (w : World) (to : TE) (t : TA) : TE := fun σ H Q => to σ H fun x H1 => (∃ a S n, x = V.ref a ∧ H1 a = some (SetI P w a S n)) ∧ t σ H1 fun xs H2 => rIAdd P w x xs H2 Q
theorem pe_iadd {o e : Expr} {es : List Expr} {to : TE} {t : TA} {apos cpos : Pos} (ho : PE X o to) (ha : PA X (e :: es) t)
    (hbase : attributeBase o "add" X.env (eval o X.env) = eval o X.env := by rfl)
    (hfew : ((backTo cpos (starEach (e :: es) X.env)).all (fun x => !x.1) && (backToKw cpos (keywordEach [] X.env)).all (fun x => x.1.isSome)
      && decide ((e :: es).length + ([] : List Keyword).length + (if ([] : List Keyword).isEmpty then 0 else 1) < 30)) = true := by rfl)
    (hline : (apos.endLine == cpos.line) = true := by rfl) (hs : starEach (e :: es) X.env = (false, eval e X.env) :: starEach es X.env := by rfl) (hplain : (backTo cpos (starEach es X.env)).any (·.1) = false := by rfl) :
    PE X (.Call (.Attribute o "add" apos) (e :: es) [] cpos) (tIAdd X.prog X.w to t) := by
  refine ⟨fun pins s σ H Q I h => ?_⟩
  refine wpAny_Call_method_late hbase hfew hline rfl (thn (ho.run pins s σ H _ I h) fun v s1 ⟨x, H1, I1, r1, ty, q1⟩ => ?_)
  obtain ⟨a, S, n, rfl, hka⟩ := ty
  have hS := si_get I1 hka
  cases r1
  refine ⟨"set", "set.add", F.plainAttrs_set, F.slot_set_add, F.type_set_add, hS.typeIs, hS.noDict, ?_⟩
  have hA := ha.run cpos pins s1 σ H1 _ I1 q1
  rw [hs] at hA ⊢
  refine Calls.callWith_builtin (by show (false || (backTo cpos (starEach es X.env)).any (·.1)) = false; rw [hplain] <;> rfl) (Calls.evalArgs_plain ?_)
  exact thn hA fun us s2 ⟨vs, H2, I2, r2, q2⟩ => mt_iadd pins s2 σ H2 (.ref a) vs (.ref a) us Q I2 rfl r2 q2
theorem cr_setK {P : Program} {w : World} {K : PySem.W.Frag} (hc : X.calm = true) (e : X.K = K := by rfl) (e1 : X.prog = P := by rfl) (e2 : X.w = w := by rfl) : CallR X (.type "set") (rSetOfI K P w) := by
  subst e e1 e2
  exact cr_setOfI hc
theorem pe_iaddK {P : Program} {w : World} {o e : Expr} {es : List Expr} {to : TE} {t : TA} {apos cpos : Pos} (ho : PE X o to) (ha : PA X (e :: es) t) (e1 : X.prog = P := by rfl) (e2 : X.w = w := by rfl)
    (hbase : attributeBase o "add" X.env (eval o X.env) = eval o X.env := by rfl)
    (hfew : ((backTo cpos (starEach (e :: es) X.env)).all (fun x => !x.1) && (backToKw cpos (keywordEach [] X.env)).all (fun x => x.1.isSome)
      && decide ((e :: es).length + ([] : List Keyword).length + (if ([] : List Keyword).isEmpty then 0 else 1) < 30)) = true := by rfl)
    (hline : (apos.endLine == cpos.line) = true := by rfl) (hs : starEach (e :: es) X.env = (false, eval e X.env) :: starEach es X.env := by rfl) (hplain : (backTo cpos (starEach es X.env)).any (·.1) = false := by rfl) :
    PE X (.Call (.Attribute o "add" apos) (e :: es) [] cpos) (tIAdd P w to t) := by
  subst e1 e2
  exact pe_iadd ho ha hbase hfew hline hs hplain
end
end MXp
/-! f(k = v, ..): a def called by keywords alone. -/
namespace MXq
open PySem PySem.Spec PyProof.Rows L2
section
variable {X : Cx} {CX : CXT} {k : Nat} {f : Addr} {fd : FuncData} {ps ks : List Str} {sp : Sp} {E : XK} {x : Str} {p pos : Pos} {kws : List Keyword} {tk : TA}
variable {g : List Value → List Value → List Value} {gV : List V → List V → List V}
theorem pe_callK0 (F : FnOk X.prog X.w X.K X.mg X.base CX k f fd ps sp) (hr : Room k X.A) (hg : Gl X x) (hm : X.mg x = some (.ref f)) (hk : PySem.W.keepIn X.K (.ref f) = true) (hb : KBinds X.K fd ps ks g gV) (hx : Passes CX X E)
    (hkw : PK X kws tk) (hall : (backToKw pos (keywordEach kws X.env)).all (·.1.isSome) = true := by rfl) (hks : (backToKw pos (keywordEach kws X.env)).filterMap (·.1) = ks := by rfl)
    (hdb : (x == ("__debug__" : Str)) = false := by decide)
    (hpl : ((backTo pos (starEach [] X.env)).any (·.1) || (backToKw pos (keywordEach kws X.env)).any (·.1.isNone)) = false := by rfl) :
    PE X (.Call (.Name x p) [] kws pos) (tCallK sp gV E tNil tk) := by
  refine ⟨fun pins s σ H Q I h => ?_⟩
  refine wpAny_Call_Name_kw (ld_glob I hg hm ?_ hdb)
  refine PySem.W.callWith_KW0 (h₀ := X.base) I.ok.mod.kin hk hall ?_ hpl
  refine thn (hkw.run pos pins s σ H _ I h) fun ws s2 ⟨zs, H2, I2, rz, q2⟩ => ⟨I2.kIn, ?_⟩
  rw [hks]
  exact run_fnk F hr hb hx I2 .nil rz q2
end
end MXq
namespace T6
open PySem PySem.Spec PyProof.Rows L2 LK
abbrev sPl : Stmt := inClass (top 22) 1
abbrev sPf : Stmt := inClass (top 22) 2
abbrev sLn : Stmt := inClass (top 22) 9
/-- a new list with the field's items -/
def spCopy (K : PySem.W.Frag) (C : Addr) (fl : Str) : Sp := fun vs H Q _ => ∃ (x dx L : Addr) (fs : List (Str × V)) (xs : List V), vs = [.ref x] ∧ H x = some (.ins C dx fs) ∧ Cls K C ∧ NoAttr K C fl ∧ fs.lookup fl = some (.ref L) ∧ H L = some (.lst xs) ∧ ∀ p, H p = none → Q (.ref p) (upd H p (.lst xs))
def spSize (K : PySem.W.Frag) (C : Addr) : Sp := fun vs H Q _ => ∃ (x dx L : Addr) (fs : List (Str × V)) (xs : List V), vs = [.ref x] ∧ H x = some (.ins C dx fs) ∧ Cls K C ∧ NoAttr K C "_loops" ∧ fs.lookup ("_loops" : Str) = some (.ref L) ∧ H L = some (.lst xs) ∧ Q (.int (xs.length : Nat)) H
section
variable {P : Program} {w : World} {K : PySem.W.Frag} {mg : Str → Option Value} {base : Heap} {C : Addr}
theorem scPl : FnScope ["self"] ["self"] (defScope sPl) := ⟨rfl, rfl, rfl, by decide +kernel, rfl, by decide +kernel, by decide +kernel⟩
theorem scPf : FnScope ["self"] ["self"] (defScope sPf) := ⟨rfl, rfl, rfl, by decide +kernel, rfl, by decide +kernel, by decide +kernel⟩
theorem scLn : FnScope ["self"] ["self"] (defScope sLn) := ⟨rfl, rfl, rfl, by decide +kernel, rfl, by decide +kernel, by decide +kernel⟩
theorem ok_Pl {f : Addr} {fd : FuncData} (F : Fun K "loops" "Cloth.loops" sPl f fd) (B : Bl mg) : FnOk P w K mg base CX0 1 f fd ["self"] (spCopy K C "_loops") := by
  refine F.ok scPl (fun vs H Q E h => ?_) (fun cdv A outer s H vs Q E hr h => ?_)
  · obtain ⟨x, dx, L, fs, xs, rfl, _⟩ := h
    rfl
  · obtain ⟨x, dx, L, fs, xs, rfl, hx, c, n, lk, hL, k⟩ := h
    refine ⟨_, pss_one (ps_ret (pe_callTy call_list_of (by rfl) (B "list" (by decide)) (by decide +kernel) (pa_cons (pe_fld (pv 0) rfl) pa_nil))), ?_⟩
    exact ⟨_, rfl, x, C, dx, fs, _, rfl, hx, c, n, lk, L, xs, rfl, .inl (SqL.of hL), k⟩
theorem ok_Pf {f : Addr} {fd : FuncData} (F : Fun K "fast" "Cloth.fast" sPf f fd) (B : Bl mg) : FnOk P w K mg base CX0 1 f fd ["self"] (spCopy K C "_fast") := by
  refine F.ok scPf (fun vs H Q E h => ?_) (fun cdv A outer s H vs Q E hr h => ?_)
  · obtain ⟨x, dx, L, fs, xs, rfl, _⟩ := h
    rfl
  · obtain ⟨x, dx, L, fs, xs, rfl, hx, c, n, lk, hL, k⟩ := h
    refine ⟨_, pss_one (ps_ret (pe_callTy call_list_of (by rfl) (B "list" (by decide)) (by decide +kernel) (pa_cons (pe_fld (pv 0) rfl) pa_nil))), ?_⟩
    exact ⟨_, rfl, x, C, dx, fs, _, rfl, hx, c, n, lk, L, xs, rfl, .inl (SqL.of hL), k⟩
theorem ok_Ln {f : Addr} {fd : FuncData} (F : Fun K "__len__" "Cloth.__len__" sLn f fd) (B : Bl mg) : FnOk P w K mg base CX0 1 f fd ["self"] (spSize K C) := by
  refine F.ok scLn (fun vs H Q E h => ?_) (fun cdv A outer s H vs Q E hr h => ?_)
  · obtain ⟨x, dx, L, fs, xs, rfl, _⟩ := h
    rfl
  · obtain ⟨x, dx, L, fs, xs, rfl, hx, c, n, lk, hL, k⟩ := h
    refine ⟨_, pss_one (ps_ret (pe_callB call_len_seq (by rfl) (B "len" (by decide)) (by decide +kernel) (pa_cons (pe_fld (pv 0) rfl) pa_nil))), ?_⟩
    exact ⟨_, rfl, x, C, dx, fs, _, rfl, hx, c, n, lk, L, xs, rfl, .inl (SqL.of hL), k⟩
end
end T6
/-! try: .. with several clauses `except C as n`, one name for all of them. -/
namespace L2N
open PySem PySem.Spec PyProof.Rows L2
/-- a clause: its class, its suite's reading by the error's address, class and dict -/
abbrev Cls1 := Value × (Addr → Value → Option Addr → TS)
def fall (i : Nat) (D : Ends) : Ends := ⟨fun τ G => D.nx (τ.set i none) G, D.rt, fun τ G => D.bk (τ.set i none) G, fun τ G => D.ct (τ.set i none) G⟩
def wL (K : PySem.W.Frag) (i : Nat) (out : WX) (D : Ends) : List Cls1 → WX
  | [] => out
  | p :: rest => fun k d σ H => ∃ hit, PySem.W.exmOne K k p.1 = some hit ∧
    (hit = true → ∀ e, H e = none → p.2 e k d (fall i D) (σ.set i (some (.ref e))) H) ∧ (hit = false → wL K i out D rest k d σ H)
inductive AsL (X : Cx) (n : Str) : List ExceptHandler → List Cls1 → Prop
  | nil : AsL X n [] []
  | cons {y : Str} {p : Cls1} {st : Stmt} {more : List Stmt} {q1 q2 : Pos} {tail : List ExceptHandler} {rest : List Cls1} (named : Names X y p.1)
      (suite : ∀ (e : Addr) (o : Obj) (k : Value) (d : Option Addr) (held : List (Addr × Obj)), Zn k d o → (∃ fs, o.data = .fields fs) → PSs (X.suite e ((e, o) :: held)) (st :: more) (p.2 e k d)) (more_ : AsL X n tail rest) :
      AsL X n (.ExceptHandler (some (.Name y q1)) (some n) (st :: more) q2 :: tail) (p :: rest)
section
variable {X : Cx} {n : Str} {i : Nat} {body : List Stmt} {c1 : ExceptHandler} {cs : List ExceptHandler} {l : List Cls1} {pos : Pos} {tb : WX → TS} {out : WX}
theorem ps_try_asL (top : X.stack = X.env :: X.outer) (own : X.env.frame = some X.env.locals) (nd : X.N.Nodup) (at_ : X.N[i]? = some n) (lc : X.env.kindOf n = some .local) (tk : Takes X out)
    (hb : ∀ (W : WX) (held : List (Addr × Obj)) (xe : Value → Shared → Prop), Takes (X.tr held xe) W → PassesOwn (model X.prog X.w) X.A X.env xe → PSs (X.tr held xe) body (tb W))
    (clauses : AsL X n (c1 :: cs) l) : PS X (.Try body (c1 :: cs) [] [] pos) (fun D σ H => tb (wL X.K i out D l) D σ H) := by
  constructor
  intro pins s σ H D I want
  have sound := I.ok
  have frames : X.A.frames = some (X.env :: X.outer) := by
    rw [sound.frames, top]
  have place : Loc X.env.scope n := .inl lc
  apply wpAny_Try_except
  refine wpAny_mono ((hb (wL X.K i out D l) (X.pn ++ pins) _ (fun err s' flying => ?_) PassesOwn.looking).run [] s σ H D (I.toTry _) want) (fun flow s1 done => ?_) (fun _ _ z => z)
  case refine_1 =>
    rcases flying with ⟨e, B, sI, pins2, τ, G, k, d, rfl, J2, nb, up, sky, ne, os, bare, wish⟩
    have J : Inv X pins τ G sI := J2.ofTry sound
    rw [top] at sky
    show wpAny (model X.prog X.w) X.A (noteFrame (.ref e) X.env) _ _ _
    refine Sky.land Zn.steady frames own sky fun g3 landed up3 => ?_
    have J3 : Inv X pins τ G { s' with heap := g3 } := J.landed nb landed.1 (up.trans up3) os bare
    rcases landed.there with ⟨o3, f3, here3, z3, data3⟩
    have apart : e ∉ frs (X.env :: X.outer) := fun inn => by
      rcases landed.2.2.1.mem inn with ⟨_, o', here', no⟩
      rw [here3] at here'
      cases here'
      exact no _ data3
    have notL : e ≠ X.env.locals := fun z => apart (List.mem_filterMap.mpr ⟨X.env, List.mem_cons_self, by rw [own, z]⟩)
    have notF : e ∉ X.fs := fun inn => by
      rcases List.mem_filterMap.mp inn with ⟨v, hv, q⟩
      exact apart (List.mem_filterMap.mpr ⟨v, List.mem_cons_of_mem _ hv, q⟩)
    have suite3 := J3.suite here3 data3 ne notL notF
    have walk : ∀ {hs : List ExceptHandler} {m : List Cls1}, AsL X n hs m → wL X.K i out D m k d τ G → wpAny (model X.prog X.w) X.A (handleBy (.ref e) X.env hs) (SP X pins D) X.xe { s' with heap := g3 } := by
      intro hs m ok
      induction ok with
      | nil =>
        intro leaves
        apply wpAny_handleBy_nil
        rcases id landed with ⟨_, _, _, oe, fs, T, oT, _, here, _, data, one, _⟩
        unfold PySem.passOn
        refine wpAny_bind (wpAny_field here data one ?_)
        rw [if_neg (show ¬ ((Value.ref T == Value.none) = true) from by simp)]
        have off : wpAny (model X.prog X.w) X.A (setFlight (.ref e) X.env.frame) (fun _ s4 => wpAny (model X.prog X.w) X.A (throw (.ref e) : Sem Flow) (SP X pins D) X.xe s4) X.xe { s' with heap := g3 } := by
          rw [own]
          refine HandSPX.setFlight_upZ landed fun g4 hop up4 => wpAny_throw (tk _ _ ?_)
          exact ⟨e, B, sI, pins, τ, G, k, d, rfl, J, nb, (up.trans up3).trans up4, .inr (.inr (by rw [top]; exact hop)), ne, os, bare, leaves⟩
        first
          | exact wpAny_bind (wpAny_pure (wpAny_bind off))
          | exact wpAny_bind off
      | @cons y p st more q1 q2 tail rest named suite r ih =>
        rintro ⟨hit, known, yes, no⟩
        refine wpAny_handleBy_cons (codeAny_handlers_test ?_) (by intro q; cases q)
        have looks : PySem.W.Looks (model X.prog X.w) g3 (typeOf (.ref e)) k := fun _ _ _ _ keep q => wpAny_typeOf_ref (keep _ _ here3) (by rw [z3.1]; exact q)
        have met := PySem.W.exm_one (M := model X.prog X.w) (J3.kIn) looks known
        have read : ∀ {Q E : Value → Shared → Prop}, Q p.1 { s' with heap := g3 } → wpAny (model X.prog X.w) (X.A.mark (some (.ref e))) (eval (.Name y q1) X.env) Q E { s' with heap := g3 } := fun {Q E} q => by
          rcases named with ⟨gl, nodbg, own' | ⟨none', blt, nn⟩⟩
          · exact ld_glob (X := X.suite e ((e, o3) :: (X.pn ++ pins))) suite3 gl own' q nodbg
          · exact ld_blt (X := X.suite e ((e, o3) :: (X.pn ++ pins))) suite3 gl none' blt q nn nodbg
        apply read
        apply met.here
        cases hit with
        | false => exact ih (no rfl)
        | true =>
          apply codeAny_handlers_suite_as
          refine HandSPX.lands_againZ landed fun g4 landed4 up4 => ?_
          have J4 : Inv X pins τ G { s' with heap := g4 } := J.landed nb landed4.1 ((up.trans up3).trans up4) os bare
          rcases landed4.there with ⟨o4, f4, here4, z4, data4⟩
          have suite4 := J4.suite here4 data4 ne notL notF
          refine store_ok (X := X.suite e ((e, o4) :: (X.pn ++ pins))) (v := .ref e) suite4 nd at_ place rfl (fun s5 I5 => ?_) (.inr lc)
          refine wpAny_mono ((suite e o4 k d (X.pn ++ pins) z4 ⟨_, data4⟩).run [] s5 _ G _ I5 (yes rfl e ne)) (fun flow s6 done => ?_) (fun _ _ z => z.elim)
          cases flow with
          | ret u =>
            rcases done with ⟨v, τ6, G6, I6, rel, q6⟩
            exact gone_ok (I6.unsuite sound) nd at_ lc fun s7 I7 => ⟨_, _, _, I7, rel, q6⟩
          | next =>
            rcases done with ⟨τ6, G6, I6, q6⟩
            exact gone_ok (I6.unsuite sound) nd at_ lc fun s7 I7 => ⟨_, _, I7, q6⟩
          | brk =>
            rcases done with ⟨τ6, G6, I6, q6⟩
            exact gone_ok (I6.unsuite sound) nd at_ lc fun s7 I7 => ⟨_, _, I7, q6⟩
          | cont =>
            rcases done with ⟨τ6, G6, I6, q6⟩
            exact gone_ok (I6.unsuite sound) nd at_ lc fun s7 I7 => ⟨_, _, I7, q6⟩
    exact walk clauses wish
  case refine_2 =>
    cases flow with
    | ret u =>
      rcases done with ⟨v, τ, G, J, rel, q⟩
      exact ⟨v, τ, G, J.ofTry sound, rel, q⟩
    | next =>
      rcases done with ⟨τ, G, J, q⟩
      exact wpAny_execs_nil ⟨τ, G, J.ofTry sound, q⟩
    | brk =>
      rcases done with ⟨τ, G, J, q⟩
      exact ⟨τ, G, J.ofTry sound, q⟩
    | cont =>
      rcases done with ⟨τ, G, J, q⟩
      exact ⟨τ, G, J.ofTry sound, q⟩
end
end L2N
/-! len(o), o of an own class with its own __len__. -/
namespace MXi
open PySem PySem.Spec PyProof.Rows L2
/-- the class has g as its __len__ -/
structure LenOf (K : PySem.W.Frag) (C g : Addr) : Prop where
  own : PySem.W.findIn K (.ref C) "__len__" = some (some (.ref g))
  isF : PySem.W.isFn K (.ref g) = true
def rLenO (C : Addr) (sp : Sp) (E : XK) : List V → Hp → VK → Prop := fun xs H Q => ∃ (a dx : Addr) (fs : List (Str × V)), xs = [.ref a] ∧ H a = some (.ins C dx fs) ∧
  sp [.ref a] H (fun v H' => ∃ n : Int, v = .int n ∧ 0 ≤ n ∧ n < 2 ^ 63 ∧ Q (.int n) H') E
section
variable {X : Cx} {CX : CXT} {k : Nat} {C g : Addr} {fd : FuncData} {ps : List Str} {sp : Sp} {E : XK}
theorem call_lenO (L : LenOf X.K C g) (F : FnOk X.prog X.w X.K X.mg X.base CX k g fd ps sp) (room : Room (k + 1) X.A) (hb : Binds X.K fd ps []) (hx : Passes CX X E) : CallR X (.builtin "len") (rLenO C sp E) := by
  intro pins s σ H xs us Q I rel want
  rcases want with ⟨a, dx, fs, rfl, here, want⟩
  obtain ⟨u, rfl, ru⟩ := vals1 rel
  obtain rfl : u = Value.ref a := ru
  rcases ins_get I.hok here with ⟨mA, O, _, _, _, _⟩
  rcases O.look with ⟨od, J, _⟩
  rcases I.fr with ⟨m, fr⟩
  have many : ([Value.ref a] ++ []).length = ps.length := F.len _ _ _ _ want
  refine PySem.W.len_K fr I.ok.mod.kin J L.own L.isF (wpAny_call ?_)
  refine codeAny_mono (F.run X.A.in1 X.stack s H ⟨[.ref a], []⟩ [.ref a] [.ref a] _ E room.in1 I.env0.in1 (hb s [.ref a] I.kIn many) (.cons rfl .nil) want) fun r s' back => ?_
  cases r with
  | error er => exact hx pins σ H s er s' I back
  | ok fl =>
    cases fl with
    | ret v =>
      obtain ⟨y, G, I3, ry, n, rfl, n0, n1, q⟩ := I.after back
      obtain ⟨t, rfl⟩ := ry
      exact ⟨⟨n0, n1⟩, .int n, G, I3.tok _, ⟨_, rfl⟩, q⟩
    | next => exact False.elim back
    | brk => exact False.elim back
    | cont => exact False.elim back
end
end MXi
/-! C(k = v, ..) of an own class whose __init__ may raise: the wish at the caller's slots. isinstance(e, (A, B)), e the error that is handled. -/
namespace MXj
open PySem PySem.Spec PyProof.Rows L2 MXe
abbrev St := L2.St
def tMakeKS (C : Addr) (m : Nat) (sp : Sp) (gV : List V → List V → List V) (E : St → XK) (tk : TA) : TE := fun σ H Q => tk σ H fun zs H2 => zs.length = m ∧ ∀ x dx, H2 x = none → H2 dx = none → dx ≠ x →
  sp (gV [.ref x] zs) (upd (upd H2 dx (.own x)) x (.ins C dx [])) (fun v H3 => v = .non ∧ Q (.ref x) H3) (E σ)
section
variable {X : Cx} {CX : CXT} {k : Nat} {f C : Addr} {fd : FuncData} {ps ks : List Str} {sp : Sp} {E : St → XK} {x : Str} {p pos : Pos} {kws : List Keyword} {tk : TA} {g : List Value → List Value → List Value} {gV : List V → List V → List V}
theorem pe_makeKS (M : Mk X.K C f) (F : FnOk X.prog X.w X.K X.mg X.base CX k f fd ps sp) (hr : Room (k + 1) X.A) (hg : Gl X x) (hm : X.mg x = some (.ref C)) (hb : KBn X.K fd ps 1 ks g gV) (hx : ∀ σ, PassesAt CX X σ (E σ)) (hkw : PK X kws tk)
    (hall : (backToKw pos (keywordEach kws X.env)).all (·.1.isSome) = true := by rfl) (hks : (backToKw pos (keywordEach kws X.env)).filterMap (·.1) = ks := by rfl) (hdb : (x == ("__debug__" : Str)) = false := by decide)
    (hpl : ((backTo pos (starEach [] X.env)).any (·.1) || (backToKw pos (keywordEach kws X.env)).any (·.1.isNone)) = false := by rfl) :
    PE X (.Call (.Name x p) [] kws pos) (tMakeKS C ks.length sp gV E tk) := by
  refine ⟨fun pins s σ H Q I h => ?_⟩
  refine wpAny_Call_Name_kw (ld_glob I hg hm ?_ hdb)
  refine PySem.W.callWith_KW0 (h₀ := X.base) I.ok.mod.kin M.kp hall ?_ hpl
  refine thn (hkw.run pos pins s σ H _ I h) fun ws s1 ⟨zs, H1, I1, rz, l2, q⟩ => ⟨I1.kIn, ?_⟩
  rw [hks]
  have want := q (s1.heap.objs.size + 1) s1.heap.objs.size (I1.hok.fresh (Nat.le_succ _)) (I1.hok.fresh (Nat.le_refl _)) (Nat.ne_of_lt (Nat.lt_succ_self _))
  have J := Inv.made (C := C) I1
  have r1 : Vals [V.ref (s1.heap.objs.size + 1)] [Value.ref (s1.heap.objs.size + 1)] := .cons rfl .nil
  have r2 := hb.rel r1 rz
  refine wpAny_call (make_map (f := f) I1.kIn M.makes M.init (beq_iff_eq.mp M.fn) (codeAny_mono
    (F.run _ X.stack _ _ ⟨[Value.ref (s1.heap.objs.size + 1)], ks.zip ws⟩ (g [Value.ref (s1.heap.objs.size + 1)] ws) _ _ (E σ) (hr.make C [] (ks.zip ws)) (J.env0.make C [] (ks.zip ws)) (hb.to _ [Value.ref (s1.heap.objs.size + 1)] ws J.kIn rfl (rz.length.symm.trans l2)) r2 want) fun r2 s2 z => ?_))
  match r2, z with
  | .error er, z => exact hx σ pins _ _ er s2 J z
  | .ok (.ret u), z =>
    obtain ⟨v, H', I3, rv, ev, q3⟩ := J.after z
    subst ev
    exact ⟨rv, ⟨V.ref (s1.heap.objs.size + 1), H', I3, rfl, q3⟩⟩
  | .ok .next, z => exact False.elim z
  | .ok .brk, z => exact False.elim z
  | .ok .cont, z => exact False.elim z
end
/-- isinstance(e, cs), e the error at a, cs a tuple of classes -/
def rIsPT (K : PySem.W.Frag) (a C d : Addr) : List V → Hp → VK → Prop := fun xs H Q => ExcC K C ∧ ∃ (tp : Addr) (cs : List V) (ws : List Value) (b : Bool) (fs : List (Str × V)), xs = [.ref a, .ref tp] ∧ H tp = some (.tup cs) ∧ Paired ClsV cs ws ∧ PySem.W.kitAny K (.ref C) ws = some b ∧ H d = some (.xd fs) ∧ Q (.bl b) H
section
variable {X : Cx} {C d : Addr} {p : Addr × Obj}
theorem call_isPT (hp : p ∈ X.pn) (ep : ErrP C d p) : CallR X (.builtin "isinstance") (rIsPT X.K p.1 C d) := by
  intro pins s σ H xs us Q I r h
  obtain ⟨ec, tp, cs, ws, b, fs, rfl, hT, k, e, hd, q⟩ := h
  obtain ⟨u1, u2, rfl, r1, r2⟩ := vals2 r
  cases (show u1 = Value.ref p.1 from r1)
  cases (show u2 = Value.ref tp from r2)
  obtain ⟨hget, _⟩ := I.pin p (List.mem_append_left _ hp)
  obtain ⟨vs, hv⟩ := ep.fs
  have hx : ObjOk X.prog X.w H s.heap d (.xd fs) := I.hok d _ hd
  obtain ⟨mA, ns, _⟩ := hx
  obtain ⟨od, hod, _⟩ := lookIn_ns ns
  have J : PySem.W.InstAt s.heap p.1 p.2 C (some od) := by
    obtain ⟨z1, z2⟩ := ep.z
    exact ⟨hget, z1, by unfold PySem.W.notCls; rw [hv] <;> rfl, by rw [z2]; exact hod⟩
  obtain ⟨_, its, rv, o, h1, h2, n, h3⟩ := (show ObjOk X.prog X.w H s.heap tp (.tup cs) from I.hok tp _ hT)
  have e3 := ClsV.all k rv
  subst e3
  obtain ⟨oc, od', dt, sl⟩ := o
  simp only at h2 h3
  subst h2 h3
  exact PySem.W.kia_tup (MXc.kit_err ec) I.kIn J h1 e (fun z => nomatch z) fun tk => ⟨.bl b, H, I.kept (t' := tk) fun _ _ z => z, rfl, q⟩
end
end MXj
/-! The law's own def where nothing is being printed: str(list) in it; its end from there. -/
namespace MXk
open PySem PySem.Spec PyProof.Rows L2
/-- a def's promise where nothing is being printed -/
structure FnG (P : Program) (w : World) (K : PySem.W.Frag) (mg : Str → Option Value) (base : Heap) (k : Nat) (f : Addr) (fd : FuncData) (ps : List Str) (sp : Sp) : Prop where
  len : ∀ vs H Q E, sp vs H Q E → vs.length = ps.length
  run : ∀ (A : Around) (outer : List Env) (s : Shared) (H : Hp) (args : Args) (us : List Value) (vs : List V) (Q : VK) (E : XK), Room k A → A.guards = some [] → Env0 P w K mg base A outer s H → BindsTo s fd args (ps.zip us) → Vals vs us → sp vs H Q E →
    codeAny (model P w) A (.call (.ref f) args) (CR CX0 outer P w H s Q E) s
section
variable {P : Program} {w : World} {K : PySem.W.Frag} {mg : Str → Option Value} {base : Heap} {k : Nat} {f : Addr} {fd : FuncData} {N ps : List Str} {sp : Sp} {x qual : Str} {st : Stmt}
theorem _root_.L2.Fun.okG (F : Fun K x qual st f fd) (S : FnScope N ps (defScope st)) (len : ∀ vs H Q E, sp vs H Q E → vs.length = ps.length)
    (body : ∀ (cdv : Value) (A : Around) (outer : List Env) (s : Shared) (H : Hp) (vs : List V) (Q : VK) (E : XK), A.guards = some [] → Room k (A.deeper (envOfC qual (defScope st) s.heap.objs.size f cdv)) → sp vs H Q E →
      ∃ t, PSs (cxOf CX0 P w K mg base N qual (defScope st) f cdv A outer s H E).nox (defBody st) t ∧ t { nx := fun _ H' => Q .non H', rt := Q } (L2.start N vs) H) : FnG P w K mg base (k + 1) f fd ps sp := by
  obtain ⟨oc, od, kV, doc, pm, an, cdv, ct, osl, rfl, lk, hcd⟩ := F.ex
  constructor
  · exact len
  · intro A outer s H args us vs Q E room none e0 bi rel hsp
    have nl := len _ _ _ _ hsp
    have up : ∀ b o, base.get? b = some o → s.heap.get? b = some o := fun b o e => (e0.bs b o e).1
    have kin : K.In s.heap := e0.mod.kin.keeps up
    have kinds : ∀ y ∈ ps.zip us, (defScope st).names.lookup y.1 = some .local ∨ ((defScope st).names.lookup y.1 = some .cell ∧ ((cellsFrom (s.heap.objs.size + 1) (defScope st).names []).lookup y.1).isSome = true) := by
      rintro ⟨n, v⟩ hy
      rcases S.par n (List.of_mem_zip hy).1 with q | q
      · exact Or.inl q
      · exact Or.inr ⟨q, PySem.W.cellsFrom_some _ _ _ (Or.inl q)⟩
    refine codeAny_call_function room.depth (kin _ _ lk) rfl S.co S.gen rfl (PySem.W.codeRec_of kin hcd) (bi _ _ _ _ (wpAny_newFunctionEnv_cells S.kind kinds fun env eqv s1 ic => ?_))
    subst eqv
    obtain ⟨t, ht, hq⟩ := body cdv A outer s H vs Q E none (room.deeper _) hsp
    have J : Inv (cxOf CX0 P w K mg base N qual (defScope st) f cdv A outer s H E) [] (L2.start N vs) H s1 := inv_start S room.hd e0 nl rel ic
    refine ⟨(e0.mod.nolimit.keeps up).keeps ic.toInCall.keep, codeAny_func (wpAny_mono (ht.nox.run [] s1 (L2.start N vs) H _ J hq) (fun fl s' z => ?_) fun e s' z => z)⟩
    have done : ∀ {σ' : L2.St} {H' : Hp} {v : V} {u : Value}, Inv (cxOf CX0 P w K mg base N qual (defScope st) f cdv A outer s H E) [] σ' H' s' → RelV v u → Q v H' → CE outer P w H s Q u s' := by
      intro σ' H' v u I r q
      exact ⟨v, H', I.os, I.bare, I.base, I.hok, r, q⟩
    match fl, z with
    | .ret u, ⟨v, σ', H', I, r, q⟩ => exact done I r q
    | .next, ⟨σ', H', I, q⟩ => exact done (v := V.non) (u := Value.none) I rfl q
    | .brk, ⟨_, _, _, q⟩ => exact False.elim q
    | .cont, ⟨_, _, _, q⟩ => exact False.elim q
end
/-- what an abstract heap must be for the script at a to be at hand -/
structure Gr (P : Program) (w : World) (K : PySem.W.Frag) (s : Shared) (a : Addr) (ns : List Int) (H : Hp) : Prop where
  only : Only H
  seq : SqL K H a (ns.map V.int)
  hok : HOk P w H s.heap
  at_ : ∀ b, H b ≠ none → b = a
  free : H a ≠ none → K.lookup a = none
theorem gr_ex {P : Program} {w : World} {K : PySem.W.Frag} {s : Shared} {a : Addr} {vs : List Value} {ns : List Int} (kin : K.In s.heap) (ha : s.heap.get? a = some { cls := .type "list", data := .seq vs.toArray }) (hi : IntsAre vs ns) (hl : ns.length ≤ sizeLine) : ∃ H, Gr P w K s a ns H := by
  have rel := vals_ints hi
  cases own : K.lookup a with
  | some o =>
    have q := kin a o own
    rw [ha] at q
    cases q
    refine ⟨fun _ => none, ⟨fun _ => Or.inl rfl, Or.inr ⟨_, vs.toArray, _, own, rfl, rfl, rfl, ?_, by simpa using rel⟩, fun b u z => ?_, fun b z => absurd rfl z, fun z => absurd rfl z⟩⟩
    · rw [List.size_toArray, hi.length]
      exact hl
    · cases (show (none : Option HO) = some u from z)
  | none =>
    refine ⟨fun b => if b = a then some (.frz { cls := .type "list", data := .seq vs.toArray } (.lst (ns.map V.int))) else none, ⟨fun b => ?_, Or.inl (Or.inr ⟨_, if_pos rfl⟩), fun b u z => ?_, fun b z => ?_, fun _ => own⟩⟩
    · by_cases e : b = a
      · exact Or.inr ⟨_, _, if_pos e⟩
      · exact Or.inl (if_neg e)
    · by_cases e : b = a
      · subst e
        cases (if_pos rfl).symm.trans z
        refine ⟨ha, ?_, vs, _, rel, ha⟩
        rw [List.length_map]
        exact hl
      · cases (if_neg e).symm.trans z
    · by_cases e : b = a
      · exact e
      · exact absurd (if_neg e) z
theorem call_law {P : Program} {w : World} {K : PySem.W.Frag} {mg mb : Str → Option Value} {k : Nat} {fa a : Addr} {fd : FuncData} {x : Str} {sp : Sp} {s : Shared} {vs : List Value} {ns : List Int}
    (kin : K.In s.heap) (hns : s.heap.Ns mainGlobals mg) (hb : s.heap.Ns builtinsNs mb) (boot : ∀ x : Str, x ≠ "__name__" → mb x = bootBuiltins x) (lim : s.heap.NoLimit) (gens : s.gens = #[])
    (ha : s.heap.get? a = some { cls := .type "list", data := .seq vs.toArray }) (hi : IntsAre vs ns) (hl : ns.length ≤ sizeLine) (room : Room k callerA)
    (F : ∀ base : Heap, K.In base → base.Ns mainGlobals mg → FnG P w K mg base k fa fd [x] sp) (bind : ∀ (s : Shared) (u : Value), BindsTo s fd ⟨[u], []⟩ [(x, u)])
    (hsp : ∀ H : Hp, Only H → SqL K H a (ns.map V.int) → sp [.ref a] H (fun v _ => v = .bl true) fun _ _ _ => False) :
    codeAny (model P w) callerA (.call (.ref fa) ⟨[.ref a], []⟩) (fun r s' => r = .ok (.ret (.bool true)) ∧ OldK s.heap s'.heap ∧ s'.os = s.os ∧ AllBare s'.gens) s := by
  obtain ⟨H, G⟩ := gr_ex (P := P) (w := w) kin ha hi hl
  have noDict : ∀ {b : Addr} {o : Obj} {es : Array DictEntry} {ep : Nat}, s.heap.get? b = some o → o.data = .dict es ep → H b = none := by
    intro b o es ep e d
    cases q : H b with
    | none => rfl
    | some u =>
      obtain rfl : b = a := G.at_ b (by rw [q]; exact nofun)
      rw [ha] at e
      cases e
      cases (show Data.seq vs.toArray _ = Data.dict es ep from d)
  have ns' : ∀ {b : Addr} {m : Str → Option Value}, s.heap.Ns b m → (hidT s.heap H).Ns b m := fun {b m} ⟨o, es, ep, e, d, r⟩ => ⟨o, es, ep, hidT_get e (noDict e d), d, r⟩
  have kin' : K.In (hidT s.heap H) := fun b o e => hidT_get (kin b o e) (by
    cases q : H b with
    | none => rfl
    | some u =>
      obtain rfl : b = a := G.at_ b (by rw [q]; exact nofun)
      rw [G.free (by rw [q]; exact nofun)] at e
      cases e)
  obtain ⟨mc, l1, l2⟩ := lim
  have mod : Mod K mg (hidT s.heap H) := ⟨kin', ns' hns, ⟨mb, ns' hb, boot⟩, mc, ns' l1, l2⟩
  have e0 : Env0 P w K mg (hidT s.heap H) callerA [] s H := ⟨rfl, mod, fun b o e => of_hidT e, Nat.le_of_eq (hidT_size _ _), True.intro, fun b inn => (List.not_mem_nil inn).elim, G.hok, .of_eq gens⟩
  have run := (F _ kin' (ns' hns)).run callerA [] s H ⟨[.ref a], []⟩ [.ref a] [.ref a] _ _ room rfl e0 (bind s (.ref a)) (.cons rfl .nil) (hsp H G.only G.seq)
  refine codeAny_mono run fun r s' z => ?_
  match r, z with
  | .error e, z => exact z.elim
  | .ok .next, z => exact False.elim z
  | .ok .brk, z => exact False.elim z
  | .ok .cont, z => exact False.elim z
  | .ok (.ret u), ⟨v, H', os, bare, un, hok', r', q⟩ =>
    cases (show v = V.bl true from q)
    cases (show u = Value.bool true from r')
    refine ⟨rfl, OldK.of_keep fun b o e => ?_, os, bare⟩
    cases q : H b with
    | none => exact un.keep b o e q (fun z => (List.not_mem_nil z).elim) (by exact List.not_mem_nil)
    | some u =>
      rcases G.only b with z | ⟨ob, xs, z⟩
      · rw [q] at z
        cases z
      · obtain ⟨here, _⟩ := G.hok b _ z
        obtain ⟨there, _⟩ := hok' b _ (un.frzs b ob _ z)
        rw [e] at here
        cases here
        exact there
/-- the goal behind the head -/
theorem walk_G {l : PySem.W.OpenLaw} {n k : Nat} {q : Program} {loose : List Str} {XP : (Str → Option Value) → Heap → Prop} {YP : World → Heap → Prop} {d : DefRec} {K : Params → PySem.W.Frag} {sp : World → Sp} {x : Str}
    (hn : l.most = some n) (hn2 : n ≤ sizeLine) (hdf : d.params.defaults = []) (hr : Room k callerA) (hY : ∀ (w : World) (h : Heap), YP w h → (K w.params).In h)
    (F : ∀ (w : World) (mg : Str → Option Value) (fa : Addr) (h : Heap), (K w.params).In h → h.Ns mainGlobals mg → mg d.name = some (.ref fa) →
      ∃ fd : FuncData, (∀ (s : Shared) (u : Value), BindsTo s fd ⟨[u], []⟩ [(x, u)]) ∧ ∀ base : Heap, (K w.params).In base → base.Ns mainGlobals mg → FnG l.prog w (K w.params) mg base k fa fd [x] (sp w))
    (hsp : ∀ (w : World) (H : Hp) (a : Addr) (ns : List Int), ns.length ≤ n → Only H → SqL (K w.params) H a (ns.map V.int) → sp w [.ref a] H (fun v _ => v = .bl true) fun _ _ _ => False) :
    PySem.W.WalkO q loose XP YP l.row.toRowW d [] (fun f vs => PySem.call f vs) := by
  refine Att.attach_call hn hdf ?_
  intro w s₀ s₁ mg mb fa o pm cd doc a vs ns G Y ho hd hcd hmg hobj hints hlen hg
  obtain ⟨fd, bind, promise⟩ := F w mg fa _ (hY w _ Y) G.T.g hmg
  exact call_law (hY w _ Y) G.T.g G.T.b G.T.builtins G.T.nolimit hg hobj hints (Nat.le_trans hlen hn2) hr promise bind fun H only seq => hsp w H a ns hlen only seq
/-- str(x), x a list or a tuple that is read as data, where nothing is being printed -/
def rStrD (K : PySem.W.Frag) : List V → Hp → VK → Prop := fun xs H Q => ∃ (a : Addr) (d : PyData), xs = [.ref a] ∧ Dp K H (.ref a) d ∧ d.showable = true ∧ d.hasDict = false ∧ d.depth ≤ 20 ∧ d.shown.length ≤ sizeLine ∧ Q (.str d.shown) H
section
variable {X : Cx}
theorem cr_strD (hg : X.A.guards = some []) (hu : X.A.units + 64 < cLine) : CallR X (.type "str") (rStrD X.K) := by
  intro pins s σ H xs us Q I r h
  obtain ⟨a, d, rfl, hd, hs, nd, dp, sz, q⟩ := h
  obtain ⟨u, rfl, ru⟩ := vals1 r
  cases (show u = Value.ref a from ru)
  obtain ⟨as, rd⟩ := Dp.reads I d _ _ hd ru
  exact str_of_reads rd hs (PyData.noDict_hsm nd) hg (by omega) (fun _ _ e => e) (fun h' u tk hk => ⟨.str d.shown, H, I.kept (t' := tk) hk, ⟨u, rfl⟩, q⟩) sz
end
end MXk
/-! x, y = a, b in an except suite. -/
namespace MXl
open PySem PySem.Spec PyProof.Rows L2 L2H HotX
section
variable {prog : Program} {w : World} {A : Around} {E : Value → Shared → Prop} {s : Shared}
/-- the end of a tuple's walk while an error is handled -/
theorem endsT {it t x1 : Addr} {i : Nat} {items : Array Value} {Q : Option Value → Shared → Prop} (hot : HotAt A x1 s.heap) (apart : x1 ≠ it) (hit : IsTupIter s.heap it t i) (ht : IsTup s.heap t items) (out : items[i]? = none)
    (k : ∀ h', Heap.ExtBut it s.heap h' → Q none { s with heap := h' }) : wpAny (model prog w) A (pyNext (.ref it)) Q E s := by
  obtain ⟨oi, gi, ci, di⟩ := id hit
  obtain ⟨ot, gt, _, m, dt⟩ := ht
  obtain ⟨hh, o1, v1, g1, d1, c1⟩ := hot
  have typ := hit.typeIs
  unfold pyNext
  apply wpAny_bind
  apply wpAny_attempt
  refine wpAny_callSpecial?_slot (name := Str.ofString "__next__") typ slot_tupleiter_next (wpAny_call_entry slot_tupleiter_next typ entry_tupleiter_next ?_ (args_tupleiter_next _))
  show wpAny _ _ (field (.ref it) 0 >>= _) _ _ _
  apply wpAny_bind
  refine wpAny_field gi di (x := .ref t) rfl ?_
  show wpAny _ _ (if (Value.ref t == Value.none) = true then _ else _) _ _ _
  rw [if_neg (by exact Bool.false_ne_true)]
  show wpAny _ _ (field (.ref it) 1 >>= _) _ _ _
  apply wpAny_bind
  refine wpAny_field gi di (x := .int i 0) rfl ?_
  show wpAny _ _ (seqItems? (.ref t) >>= _) _ _ _
  apply wpAny_bind
  refine wpAny_seqItems gt dt ?_
  simp only [Int.toNat_natCast, out]
  apply wpAny_bind
  apply wpAny_rule
  apply wpAny_bind
  refine wpAny_setField gi di (by simp) ?_
  have g1' : (s.heap.update it (Obj.mapFields (·.setIfInBounds 0 Value.none))).get? x1 = some o1 := (Heap.get?_update_other _ _ (Ne.symm apart)).trans g1
  show wpAny _ _ (newExc (.type "StopIteration") [] >>= _) _ _ _
  apply wpAny_bind
  simp only [newExc, newTuple]
  apply wpAny_bind
  refine wpAny_newObj_type ?_ (by size_fits)
  refine wpAny_bind (m := firstArgMember _ _) (wpAny_of_eq (a := Value.none) (by first | rfl | (simp only [firstArgMember]; rfl)) ?_)
  refine wpAny_newObj_type ?_ (by size_fits)
  refine raiseNew_hot ⟨hh, o1, v1, Heap.get?_push_of_some _ (Heap.get?_push_of_some _ g1'), d1, c1⟩ (Nat.ne_of_lt (Heap.lt_size (Heap.get?_push_of_some _ g1'))) (Heap.get?_push_size _ rfl) rfl (by first | (simp; done) | (simp; omega) | (simp only [Array.size_append]; simp; omega)) ?_
  apply wpAny_bind
  refine wpAny_isInstance (T := "StopIteration") (b := true) ⟨_, Heap.get?_update_self _ (Heap.get?_push_size _ rfl) rfl, rfl⟩ isSubtype_stop ?_
  refine wpAny_pure (k _ fun b o nb e => ?_)
  have e1 : (s.heap.update it (Obj.mapFields (·.setIfInBounds 0 Value.none))).get? b = some o := (Heap.get?_update_other _ _ (Ne.symm nb)).trans e
  rw [Heap.get?_update_other _ _ (Nat.ne_of_gt (Heap.lt_size (Heap.get?_push_of_some _ e1)))]
  exact Heap.get?_push_of_some _ (Heap.get?_push_of_some _ e1)
/-- a tuple taken apart while an error is handled -/
theorem apartT {t x1 : Addr} {items : Array Value} {Q : List Value → Shared → Prop} (hot : HotAt A x1 s.heap) (ht : IsTup s.heap t items) (k : ∀ h', Heap.ExtBut s.heap.objs.size s.heap h' → Q items.toList { s with heap := h' }) :
    wpAny (model prog w) A (unpackItems (.ref t) items.size none) Q E s := by
  obtain ⟨hh, o1, v1, g1, d1, c1⟩ := hot
  have new : t ≠ s.heap.objs.size := by
    obtain ⟨o, e, _⟩ := ht
    exact Nat.ne_of_lt (Heap.lt_size e)
  have far : x1 ≠ s.heap.objs.size := Nat.ne_of_lt (Heap.lt_size g1)
  unfold unpackItems
  apply wpAny_bind
  unfold notIterableAtAll
  apply wpAny_bind
  refine wpAny_specialOf ht.typeIs slot_tuple_iter.lookup ?_
  apply wpAny_pure
  simp only [Bool.false_eq_true, if_false]
  apply wpAny_bind
  refine wpAny_holding (iter_tuple ht ?_)
  apply wpAny_bind
  refine wpAny_holding (draw_tuple new items.size 0 _ _ ⟨_, Heap.get?_push_size _ rfl, rfl, rfl⟩ (ht.push _) (by omega) fun h1 it1 sb1 => ?_)
  have whole : List.take items.size (List.drop 0 items.toList) = items.toList := List.take_of_length_le (by simp)
  rw [whole, if_neg (by simp)]
  have t1 : IsTup h1 t items := (ht.push _).extBut sb1.extBut new
  apply wpAny_bind
  refine wpAny_holding (endsT ⟨hh, o1, v1, sb1.extBut _ _ far (Heap.get?_push_of_some _ g1), d1, c1⟩ far it1 t1 (by simp) fun h2 e2 => ?_)
  simp only [Option.isSome_none, Bool.false_eq_true, if_false]
  exact wpAny_pure (k h2 fun b o nb e => e2 b o nb (sb1.extBut b o nb (Heap.get?_push_of_some _ e)))
end
section
variable {X : Cx} {pos : Pos}
theorem ps_parH {i j : Nat} {x y : Str} {a b : Expr} {ta : TA} {px py pt : Pos} {kt k2 pt2} (hc : HotC X) (hN : X.N.Nodup) (hi : X.N[i]? = some x) (hj : X.N[j]? = some y) (hij : i ≠ j) (hx : X.env.scope.names.lookup x = some .local) (hy : X.env.scope.names.lookup y = some .local)
    (ha : PA X [a, b] ta) (hw : swappedStores [.Tuple [.Name x px, .Name y py] kt pt] (.Tuple [a, b] k2 pt2) X.env = pure (some [x, y])) (hs : swapsWithSole [.Tuple [.Name x px, .Name y py] kt pt] (.Tuple [a, b] k2 pt2) pos.line X.env = pure false := by rfl) :
    PS X (.Assign [.Tuple [.Name x px, .Name y py] kt pt] (.Tuple [a, b] k2 pt2) pos) (tPar i j ta) := by
  constructor
  intro pins s σ H D I want
  rw [exec_Assign_arm]
  apply wpAny_bind
  apply wpAny_standAt
  rw [hs]
  apply wpAny_bind
  apply wpAny_pure
  rw [if_neg (by decide)]
  apply wpAny_bind
  apply Tuple_
  refine thn (ha.run _ pins s σ H _ I want) fun us s1 ⟨vs, H1, I1, r1, v, w, e1, q1⟩ => ?_
  subst e1
  obtain ⟨u1, u2, rfl, rv, rw'⟩ := vals2 r1
  refine wpAny_newObj_type ?_ (by show 2 ≤ sizeLine; decide)
  have I2 : Inv X pins σ H1 { s1 with heap := s1.heap.push { cls := .type "tuple", data := .seq [u1, u2].toArray } } := I1.kept (t' := s1.toks) fun b o e => Heap.get?_push_of_some _ e
  rw [hw]
  apply wpAny_bind
  apply wpAny_pure
  show wpAny (model X.prog X.w) X.A (rule "assign.swapped-stores" >>= fun _ => unpackItems (.ref s1.heap.objs.size) 2 none >>= fun items => assignInOrder [fun v => bindName X.env y v, fun v => bindName X.env x v] items.reverse >>= fun _ => pure Flow.next) _ _ _
  apply wpAny_bind
  apply wpAny_rule
  apply wpAny_bind
  obtain ⟨x1, hot⟩ := hc.at I2
  refine apartT (items := #[u1, u2]) hot (IsTup.new s1.heap _) fun h' ext => ?_
  have I3 := I2.kept (h' := h') (t' := s1.toks) fun b o e => ext b o (Nat.ne_of_lt (Heap.lt_size e)) e
  show wpAny _ _ (assignInOrder [fun v => bindName X.env y v, fun v => bindName X.env x v] [u2, u1] >>= fun _ => pure Flow.next) _ _ _
  apply wpAny_bind
  apply assignInOrder_cons
  apply wpAny_bindName
  refine store_ok I3 hN hj (.inl hy) rw' (fun s2 I4 => ?_) (.inr hy)
  apply assignInOrder_cons
  apply wpAny_bindName
  refine store_ok I4 hN hi (.inl hx) rv (fun s3 I5 => assignInOrder_nil (wpAny_pure ?_)) (.inr hx)
  rw [List.set_comm _ _ (Ne.symm hij)] at I5
  exact ⟨_, H1, I5, q1⟩
theorem hot_suite {X : Cx} {a : Addr} {oe : Obj} {cls : Value} {d : Option Addr} {pn : List (Addr × Obj)} (hz : L2N.Zn cls d oe) (hf : ∃ vs, oe.data = .fields vs) : HotC (X.suite a ((a, oe) :: pn)) := by
  obtain ⟨vs, e⟩ := hf
  exact ⟨(a, oe), ⟨rfl, vs, e, hz.2.2 vs e⟩, List.mem_cons_self⟩
end
end MXl
namespace T6
open PySem PySem.Spec PyProof.Rows L2 L2H LK RZ MXb MXd MXe MXf MXg MXj MXl
/-- a suite's reading where the error is of an own class and has a dict -/
def tErr (t : Addr → Addr → Addr → TS) : Addr → Value → Option Addr → TS := fun a cls d => match cls, d with
  | .ref C, some dd => t a C dd
  | _, _ => fun _ _ _ => False
theorem ps_err {X : Cx} {st : List Stmt} {a : Addr} {oe : Obj} {cls : Value} {d : Option Addr} {pn : List (Addr × Obj)} {t : Addr → Addr → Addr → TS} (hz : L2N.Zn cls d oe) (hf : ∃ vs, oe.data = .fields vs)
    (h : ∀ C dd, ErrP C dd (a, oe) → PSs (X.suite a ((a, oe) :: pn)) st (t a C dd)) : PSs (X.suite a ((a, oe) :: pn)) st (tErr t a cls d) := by
  match cls, d with
  | .ref C, some dd => exact h C dd ⟨hz.zc, hf⟩
  | .ref _, none => exact pss_no
  | .none, _ => exact pss_no
  | .ellipsis, _ => exact pss_no
  | .notImplemented, _ => exact pss_no
  | .bool _, _ => exact pss_no
  | .int _ _, _ => exact pss_no
  | .float _ _, _ => exact pss_no
  | .str _ _, _ => exact pss_no
  | .bytes _ _, _ => exact pss_no
  | .type _, _ => exact pss_no
  | .builtin _, _ => exact pss_no
/-- what the law says of the errors' classes -/
structure ErK (K : PySem.W.Frag) (mg : Str → Option Value) (CR CF CL CP : Addr) : Prop where
  gR : mg "RunError" = some (.ref CR)
  gP : mg "InvalidLoop" = some (.ref CP)
  ff : PySem.W.exmOne K (.ref CF) (.ref CF) = some true
  lf : PySem.W.exmOne K (.ref CL) (.ref CF) = some false
  ll : PySem.W.exmOne K (.ref CL) (.ref CL) = some true
  fR : PySem.W.kitOne K (.ref CF) (.ref CR) = some true
  lR : PySem.W.kitOne K (.ref CL) (.ref CR) = some true
  fO : PySem.W.kitAny K (.ref CF) [.ref CL, .ref CP] = some false
  lO : PySem.W.kitAny K (.ref CL) [.ref CF, .ref CP] = some false
/-- a made cloth at x: its loops and its fast ones as they were handed in -/
def Made (K : PySem.W.Frag) (CC : Addr) (H H' : Hp) (x : Addr) (ds : List PyData) (ms : List Int) : Prop := ∃ (dx L G : Addr) (xs : List V), H x = none ∧ H L = none ∧ H G = none ∧ L ≠ G ∧ x ≠ L ∧ x ≠ G ∧
  H' x = some (.ins CC dx [("_loops", .ref L), ("_fast", .ref G)]) ∧ H' L = some (.lst xs) ∧ DpAll K H' xs ds ∧ H' G = some (.lst (ms.map V.int)) ∧ Same H H'
def spMade (K : PySem.W.Frag) (CC : Addr) : Sp := fun vs H Q _ => ∃ (way : Int) (u v : V) (d e : PyData), vs = [.int way, u, v] ∧ Dp K H u d ∧ Dp K H v e ∧ tame d = true ∧ d.canLay0 = true ∧ tame e = true ∧
  (∀ s i t H', dueD d e = some (s, i) → H t = none → H' t = some (.tup [.str s, .int i]) → Same H H' → Q (.ref t) H') ∧
  ∀ (ds : List PyData) (ns ms : List Int) (x : Addr) (H' : Hp), dueD d e = none → d = .list ds → e = .list (ns.map PyData.int) → ms.Perm ns → ms.Pairwise (· ≤ ·) → Made K CC H H' x ds ms → Q (.ref x) H'
def gKw {α : Type} : List α → List α → List α := fun us ws => match ws with
  | [a, b] => us ++ [b, a]
  | _ => []
theorem gKw_rel {vs zs : List V} {us ws : List Value} (a : Vals vs us) (b : Vals zs ws) : Vals (gKw vs zs) (gKw us ws) := by
  unfold gKw
  match b with
  | .nil => exact .nil
  | .cons _ .nil => exact .nil
  | .cons r1 (.cons r2 .nil) => exact a.append (.cons r2 (.cons r1 .nil))
  | .cons _ (.cons _ (.cons _ _)) => exact .nil
theorem due_cases {d e : PyData} {s : Str} {i : Int} (h : dueD d e = some (s, i)) : s = "loops" ∨ s = "fast" := by
  unfold dueD at h
  split at h
  · cases h
    exact .inl rfl
  · cases d with
    | list ds =>
      obtain ⟨j, _, q⟩ := Option.map_eq_some_iff.mp h
      cases q
      exact .inr rfl
    | _ => cases h
theorem sqt_but {K : PySem.W.Frag} {H H' : Hp} {x a C dx : Addr} {fs : List (Str × V)} {xs : List V} (hx : H x = some (.ins C dx fs)) (s : But x H H') (h : SqT K H a xs) : SqT K H' a xs := by
  rcases h with (h | ⟨o, h⟩) | h
  · exact .inl (.inl (s _ _ (ne_of h hx (by intro q; cases q)) h))
  · exact .inl (.inr ⟨o, s _ _ (ne_of h hx (by intro q; cases q)) h⟩)
  · exact .inr h
mutual
theorem dp_but {K : PySem.W.Frag} {H H' : Hp} {x C dx : Addr} {fs : List (Str × V)} (hx : H x = some (.ins C dx fs)) (s : But x H H') : ∀ {v : V} {d : PyData}, Dp K H v d → Dp K H' v d
  | _, _, .non => .non
  | _, _, .bl b => .bl b
  | _, _, .int i => .int i
  | _, _, .str z => .str z
  | _, _, .lst q a => .lst (sql_but hx s q) (dps_but hx s a)
  | _, _, .tup q a => .tup (sqt_but hx s q) (dps_but hx s a)
theorem dps_but {K : PySem.W.Frag} {H H' : Hp} {x C dx : Addr} {fs : List (Str × V)} (hx : H x = some (.ins C dx fs)) (s : But x H H') : ∀ {vs : List V} {ds : List PyData}, DpAll K H vs ds → DpAll K H' vs ds
  | _, _, .nil => .nil
  | _, _, .cons a r => .cons (dp_but hx s a) (dps_but hx s r)
end
theorem none0 {X : Cx} : L2N.Takes X (fun _ _ _ _ => False) := fun _ _ x => by
  obtain ⟨_, _, _, _, _, _, _, _, _, _, _, _, _, _, _, _, z⟩ := x
  exact z.elim
section
variable {P : Program} {w : World} {K : PySem.W.Frag} {mg : Str → Option Value} {base : Heap} {fI CC CR CF CL CP fC : Addr} {fdC : FuncData}
def tSuite (K : PySem.W.Frag) (word : Str) (CE CR CA CP : Addr) : Addr → Addr → Addr → TS := fun a C d =>
  tPar 3 4 (tCons (tTup (tCons (tC (.str word)) (tCons (tXf a (.ref C) (some d) CE "value" (tVar 5)) tNil)))
    (tCons (tAndV (tCB (rIsP K a C d) (tCons (tVar 5) (tCons (tC (.ref CR)) tNil))) (tNotV (tCB (rIsPT K a C d) (tCons (tVar 5) (tCons (tTup (tCons (tC (.ref CA)) (tCons (tC (.ref CP)) tNil))) tNil))))) tNil))
theorem err_suite {word : Str} {CE CA a dd : Addr} {D : Ends} {H' : Hp} {i : Int} {x0 x1 x2 x3 x4 x5 : Option V} (ec : ExcC K CE) (kR : PySem.W.kitOne K (.ref CE) (.ref CR) = some true) (kO : PySem.W.kitAny K (.ref CE) [.ref CA, .ref CP] = some false)
    (hd : H' dd = some (.xd [("value", .int i)])) (k : ∀ t H3, H' t = none → H3 t = some (.tup [.str word, .int i]) → Same H' H3 → D.nx [x0, x1, x2, some (.ref t), some (.bl true), none] H3) :
    tErr (tSuite K word CE CR CA CP) a (.ref CE) (some dd) (L2N.fall 5 D) (([x0, x1, x2, x3, x4, x5] : L2.St).set 5 (some (.ref a))) H' := by
  dsimp only [tErr, tSuite]
  refine ⟨_, rfl, rfl, rfl, dd, _, _, rfl, hd, rfl, (by show 2 ≤ sizeLine; decide), fun t nt => ?_⟩
  have s1 := same_new (o := .tup [.str word, .int i]) nt
  refine ⟨_, rfl, ec, _, _, _, _, rfl, fun _ r => r, kR, s1 _ _ hd, _, rfl, LK.ifT rfl ?_⟩
  refine ⟨_, rfl, (by show 2 ≤ sizeLine; decide), fun tp ntp => ?_⟩
  have s2 := same_new (o := .tup [.ref CA, .ref CP]) ntp
  refine ⟨ec, tp, _, _, _, _, rfl, upd_same, .cons (.own _) (.cons (.own _) .nil), kO, s2 _ _ (s1 _ _ hd), _, rfl, _, _, rfl, ?_⟩
  exact k t _ nt (s2 _ _ upd_same) (s1.trans s2)
end
end T6
namespace T6
open PySem PySem.Spec PyProof.Rows L2 LK
abbrev sEq : Stmt := inClass (top 22) 10
/-- a cloth of no loops -/
def Bare (CC : Addr) (H : Hp) (x : Addr) : Prop := ∃ dx L G, H x = some (.ins CC dx [("_loops", .ref L), ("_fast", .ref G)]) ∧ H L = some (.lst []) ∧ H G = some (.lst [])
def BothBare (CC : Addr) : Addr → Addr → Hp → Prop := fun x y H => Bare CC H x ∧ Bare CC H y
section
variable {P : Program} {w : World} {K : PySem.W.Frag} {mg : Str → Option Value} {base : Heap} {CC : Addr}
theorem scEq : FnScope ["self", "other"] ["self", "other"] (defScope sEq) := ⟨rfl, rfl, rfl, by decide +kernel, rfl, by decide +kernel, by decide +kernel⟩
/-- the type of an instance of the class -/
structure InsTy (K : PySem.W.Frag) (C : Addr) : Prop where
  ty : ∀ {H : Hp} {x dx : Addr} {fs : List (Str × V)}, H x = some (.ins C dx fs) → TyX K H (.ref x) (.ref C)
  own : PySem.W.kitOne K (.ref C) (.ref C) = some true
  tup : PySem.W.kitOne K (.ref C) (.type "tuple") = some false
theorem ok_Eq {f : Addr} {fd : FuncData} (F : Fun K "__eq__" "Cloth.__eq__" sEq f fd) (B : Bl mg) (gC : mg "Cloth" = some (.ref CC)) (cc : Cls K CC) (n1 : NoAttr K CC "_loops") (n2 : NoAttr K CC "_fast") (it : InsTy K CC) : FnOk P w K mg base CX0 1 f fd ["self", "other"] (spEq (BothBare CC)) := by
  refine F.ok scEq (fun vs H Q E h => ?_) (fun cdv A outer s H vs Q E hr h => ?_)
  · obtain ⟨a, b, rfl, _⟩ := h
    rfl
  · obtain ⟨a, b, rfl, ⟨⟨dx, L, G, hx, hL, hG⟩, dy, M, N, hy, hM, hN⟩, k⟩ := h
    refine ⟨_, pss_one (ps_ret (pe_and (pe_callB call_isi (by rfl) (B "isinstance" (by decide)) (by decide +kernel) (pa_cons (pv 1) (pa_cons (pe_glob rfl gC (v := .ref CC) rfl) pa_nil))) (pe_and (pe_cmpR (op_eqD hr.units) (pe_fld (pv 0) rfl) (pe_fld (pv 1) rfl) (nomark _)) (pe_one (pe_cmpR (op_eqD hr.units) (pe_fld (pv 0) rfl) (pe_fld (pv 1) rfl) (nomark _)))))), ?_⟩
    have e0 : ∀ {p : Addr}, H p = some (.lst []) → Dp K H (.ref p) (.list []) := fun q => .lst (SqL.of q) .nil
    refine ⟨_, rfl, _, _, _, _, true, rfl, .own CC, it.ty hy, it.own, _, rfl, LK.ifT rfl ?_⟩
    refine ⟨_, rfl, a, CC, dx, _, _, rfl, hx, cc, n1, rfl, _, rfl, b, CC, dy, _, _, rfl, hy, cc, n1, rfl, .list [], .list [], e0 hL, e0 hM, rfl, rfl, _, rfl, LK.ifT rfl ?_⟩
    exact ⟨_, rfl, a, CC, dx, _, _, rfl, hx, cc, n2, rfl, _, rfl, b, CC, dy, _, _, rfl, hy, cc, n2, rfl, .list [], .list [], e0 hG, e0 hN, rfl, rfl, k H Ext.rfl'⟩
end
end T6
/-! Sets of texts whose table rises: added to, comprehended, sorted. -/
namespace MXm
open PySem PySem.Spec PyProof.Rows L2
abbrev Ent := Int × Value
def kS (e : Ent) : Str := match e.2 with
  | .str x _ => x
  | _ => ⟨#[]⟩
/-- one object that is such a set -/
structure Tx (w : World) (o : Obj) (es : Array Ent) (ep : Nat) (t : SetTable) (S : Str → Bool) : Prop where
  ex : o.ExactSet
  da : o.data = .set es ep t
  good : ∀ e ∈ es.toList, ∃ x u, e = (hashStr w x, Value.str x u)
  nd : (es.toList.map kS).Nodup
  mem : ∀ x, S x = true ↔ x ∈ es.toList.map kS
  few : es.size < scanBound
  fit : t.fits es.size = true
  ris : Ris t.place.toList
  led : w.params.followText "set-order" = true ∨ t.led = true
def SetT (w : World) (h : Heap) (a : Addr) (S : Str → Bool) (n : Nat) : Prop := ∃ o es ep t, h.get? a = some o ∧ es.size = n ∧ Tx w o es ep t S
theorem Tx.elems {P : Program} {w : World} {o : Obj} {es : Array Ent} {ep : Nat} {t : SetTable} {S : Str → Bool} (T : Tx w o es ep t S) : ElemsOf (PySem.strKind P w) es.toList := by
  intro e inn
  obtain ⟨x, u, rfl⟩ := T.good e inn
  exact ⟨⟨x, PySem.strKind_is P w x u, rfl⟩, rfl⟩
theorem good_key {w : World} {e : Ent} (g : ∃ x u, e = (hashStr w x, Value.str x u)) (k : Str) : Value.isStrOf k e.2 = true ↔ kS e = k := by
  obtain ⟨x, u, rfl⟩ := g
  simp [Value.isStrOf, kS]
theorem SetT.at {w : World} {h h' : Heap} {a : Addr} {S : Str → Bool} {n : Nat} (R : SetT w h a S n) (k : ∀ o, h.get? a = some o → h'.get? a = some o) : SetT w h' a S n := by
  obtain ⟨o, es, ep, t, e, r⟩ := R
  exact ⟨o, es, ep, t, k o e, r⟩
theorem SetT.lt {w : World} {h : Heap} {a : Addr} {S : Str → Bool} {n : Nat} (R : SetT w h a S n) : a < h.objs.size := by
  obtain ⟨_, _, _, _, e, _⟩ := R
  exact Heap.lt_size e
theorem fresh {h : Heap} (w : World) : SetT w (h.push { cls := .type "set", dict := none, data := .set #[] 0 (.fresh 0 0 (!w.params.followText "set-order")) }) h.objs.size (fun _ => false) 0 := by
  refine ⟨_, #[], 0, _, Heap.get?_push_size _ rfl, rfl, ⟨⟨rfl, rfl, rfl⟩, rfl, fun e inn => ?_, by simp, fun x => by simp, by decide, by rfl, List.Pairwise.nil, ?_⟩⟩
  · simp at inn
  · show _ ∨ (!w.params.followText "set-order") = true
    cases w.params.followText "set-order" with
    | false => exact Or.inr rfl
    | true => exact Or.inl rfl
section
variable {P : Program} {w : World} {A : Around} {E : Value → Shared → Prop} {s : Shared} {a : Addr} {S : Str → Bool} {n : Nat}
/-- the new payload is laid, all anew where the table is too full -/
theorem tailT {note : Bool → Sem Unit} (free : ∀ (b : Bool) (s1 : Shared) (R : Unit → Shared → Prop), R () s1 → wpAny (model P w) A (note b) R E s1) {o : Obj} {es es1 : Array Ent} {ep : Nat} {t t1 : SetTable} {S1 : Str → Bool} (here : s.heap.get? a = some o) (old : o.data = .set es ep t) (ex : o.ExactSet)
    (good : ∀ e ∈ es1.toList, ∃ x u, e = (hashStr w x, Value.str x u)) (nd : (es1.toList.map kS).Nodup) (mem : ∀ x, S1 x = true ↔ x ∈ es1.toList.map kS) (few : es1.size < scanBound) (fit : t1.fits es1.size = true) (ris : Ris t1.place.toList) (led : w.params.followText "set-order" = true ∨ t1.led = true)
    {dum : Bool} {R : Option Bool → Shared → Prop} (k : ∀ h', Heap.SameBut a s.heap h' → SetT w h' a S1 es1.size → R (some true) { s with heap := h' }) :
    wpAny (model P w) A (do
      storeSet a es1 t1
      if (!dum && t1.tooFull) = true then do
        note (relayAll t1 es1 (SetTable.grown es1.size)).2.2
        storeSet a (relayAll t1 es1 (SetTable.grown es1.size)).1 (relayAll t1 es1 (SetTable.grown es1.size)).2.1
        pure (some true)
      else pure (some true)) R E s := by
  apply wpAny_bind
  refine wpAny_storeSet_of here old ?_ (fits_of_scanBound few)
  have here1 := L2.store_at (es' := es1) (t' := t1) here old
  have same1 := Heap.SameBut.update s.heap a (Obj.putSet es1 t1)
  split
  · have perm := relayAll_perm t1 es1 (SetTable.grown es1.size)
    have fit2 := relayAll_fits t1 es1 (SetTable.grown es1.size)
    have ris2 := relayAll_ris t1 es1 (SetTable.grown es1.size)
    have led2 := relayAll_led t1 es1 (SetTable.grown es1.size)
    revert perm fit2 ris2 led2
    generalize relayAll t1 es1 (SetTable.grown es1.size) = z
    obtain ⟨es2, t2, gave⟩ := z
    intro perm fit2 ris2 led2
    have size : es2.size = es1.size := by rw [← Array.length_toList, perm.length_eq, Array.length_toList]
    have few2 : es2.size < scanBound := size ▸ few
    apply wpAny_bind
    apply free
    apply wpAny_bind
    refine wpAny_storeSet_of here1 rfl ?_ (fits_of_scanBound few2)
    have here2 := L2.store_at (es' := es2) (t' := t2) here1 rfl
    refine wpAny_pure (k _ (same1.trans (Heap.SameBut.update _ a _)) ⟨_, es2, _, t2, here2, size, ⟨ex, rfl, fun e inn => good e (perm.mem_iff.mp inn), (perm.map kS).nodup_iff.mpr nd, fun x => (mem x).trans (perm.map kS).mem_iff.symm, few2, fit2, ris2, ?_⟩⟩)
    exact led.imp id fun z => (show t2.led = t1.led from led2).trans z
  · exact wpAny_pure (k _ same1 ⟨_, es1, _, t1, here1, rfl, ⟨ex, rfl, good, nd, mem, few, fit, ris, led⟩⟩)
/-- a text added -/
theorem addT {x : Str} {u : Tok} {Q : Bool → Shared → Prop} (R : SetT w s.heap a S n) (room : n + 1 < scanBound) (k : ∀ h', Heap.SameBut a s.heap h' → SetT w h' a (fun y => S y || decide (y = x)) (if S x = true then n else n + 1) → Q (!S x) { s with heap := h' }) :
    wpAny (model P w) A (setAddHashed a (.str x u) (hashStr w x)) Q E s := by
  obtain ⟨o, es, ep, t, here, size, T⟩ := R
  have own : (PySem.strKind P w).is x (.str x u) = true := PySem.strKind_is P w x u
  have el := T.elems (P := P)
  have keyMem : ∀ y, y ∈ es.toList.map kS ↔ ∃ e ∈ es.toList, (PySem.strKind P w).is y e.2 = true := fun y => by
    rw [List.mem_map]
    constructor
    · rintro ⟨e, inn, q⟩
      exact ⟨e, inn, (good_key (T.good e inn) y).2 q⟩
    · rintro ⟨e, inn, q⟩
      exact ⟨e, inn, (good_key (T.good e inn) y).1 q⟩
  unfold setAddHashed setAddHashedIn
  apply wpAny_holding
  apply wpAny_bind
  refine wpAny_setState_of here T.da T.fit ?_
  dsimp only
  rw [byScan_of (show (Value.str x u).scannable = true from rfl) T.few el]
  simp only [↓reduceIte]
  unfold setAddByScan
  apply wpAny_bind
  apply wpAny_bind
  apply wpAny_rule
  apply wpAny_bind
  refine wpAny_setScan_of own here T.da T.fit el ?_
  cases find : List.findIdx? (fun e => (PySem.strKind P w).is x e.2) es.toList with
  | some j =>
    dsimp only
    obtain ⟨lt, is, _⟩ := List.findIdx?_eq_some_iff_getElem.mp find
    have yes : S x = true := (T.mem x).2 ((keyMem x).2 ⟨es.toList[j], List.getElem_mem lt, is⟩)
    have q := k s.heap (Heap.SameBut.refl a s.heap)
    rw [if_pos yes, yes] at q
    refine wpAny_pure (wpAny_pure (q ⟨o, es, ep, t, here, size, ⟨T.ex, T.da, T.good, T.nd, fun y => ?_, T.few, T.fit, T.ris, T.led⟩⟩))
    rw [Bool.or_eq_true, decide_eq_true_eq, ← T.mem y]
    exact ⟨fun z => z.elim id fun e => e ▸ yes, Or.inl⟩
  | none =>
    dsimp only
    have notIn : x ∉ es.toList.map kS := fun z => by
      obtain ⟨e, inn, q⟩ := (keyMem x).1 z
      have c := List.findIdx?_eq_none_iff.mp find e inn
      rw [q] at c
      cases c
    have no : S x = false := Bool.eq_false_iff.mpr fun q => notIn ((T.mem x).1 q)
    have free : ∀ (b : Bool) (s1 : Shared) (R : Unit → Shared → Prop), R () s1 → wpAny (model P w) A (match b with | true => rule "set.scan.the-table-gave-way" | false => pure ()) R E s1 := by
      intro b s1 R q
      cases b with
      | false => exact wpAny_pure q
      | true => exact wpAny_rule q
    have perm := layNew_perm t es (hashStr w x) (.str x u)
    have fit1 := layNew_fits t es (hashStr w x) (.str x u)
    have ris1 := layNew_ris t es (hashStr w x) (.str x u) T.ris
    have led1 := layNew_led t es (hashStr w x) (.str x u)
    revert perm fit1 ris1 led1
    generalize layNew t es (hashStr w x) (.str x u) = z
    obtain ⟨es1, t1, dum, gave⟩ := z
    intro perm fit1 ris1 led1
    dsimp only at perm fit1 ris1 led1 ⊢
    rw [Array.toList_push] at perm
    have cons : es1.toList.Perm ((hashStr w x, Value.str x u) :: es.toList) := perm.trans (List.perm_append_singleton _ _)
    have keys : (es1.toList.map kS).Perm (x :: es.toList.map kS) := cons.map kS
    have good : ∀ e ∈ es1.toList, ∃ y v, e = (hashStr w y, Value.str y v) := fun e inn => by
      rcases List.mem_cons.mp (cons.mem_iff.mp inn) with z | z
      · exact ⟨x, u, z⟩
      · exact T.good e z
    have nd : (es1.toList.map kS).Nodup := keys.nodup_iff.mpr (List.nodup_cons.mpr ⟨notIn, T.nd⟩)
    have mem : ∀ y, (S y || decide (y = x)) = true ↔ y ∈ es1.toList.map kS := fun y => by
      rw [Bool.or_eq_true, decide_eq_true_eq, T.mem y, keys.mem_iff, List.mem_cons]
      exact Or.comm
    have size1 : es1.size = n + 1 := by rw [← Array.length_toList, cons.length_eq, List.length_cons, Array.length_toList, size]
    have few : es1.size < scanBound := size1 ▸ room
    have led : w.params.followText "set-order" = true ∨ t1.led = true := T.led.imp id fun z => led1.trans z
    have fin : ∀ h', Heap.SameBut a s.heap h' → SetT w h' a (fun y => S y || decide (y = x)) es1.size → Q true { s with heap := h' } := fun h' sb r => by
      have q := k h' sb
      rw [no, if_neg Bool.false_ne_true] at q
      rw [size1] at r
      exact q r
    apply wpAny_bind
    apply free
    split
    · apply wpAny_bind
      rw [hashByValue_scannable 8 (show (Value.str x u).scannable = true from rfl)]
      apply wpAny_pure
      refine tailT free here T.da T.ex good nd mem few ?_ ?_ ?_ fun h' sb r => ?_
      · first | (split <;> first | exact fit1 | exact SetTable.fits_plain_off fit1) | exact fit1
      · first | (split <;> exact ris1) | exact ris1
      · first | (split <;> exact led) | exact led
      · exact wpAny_pure (fin h' sb r)
    · apply wpAny_bind
      apply wpAny_pure
      simp only [↓reduceIte]
      refine tailT free here T.da T.ex good nd mem few fit1 ris1 led fun h' sb r => ?_
      exact wpAny_pure (fin h' sb r)
/-- sorted(set of texts) -/
theorem sortT {Q : Value → Shared → Prop} (R : SetT w s.heap a S n) (hh : A.handled = none) (hn : n ≤ sizeLine)
    (k : ∀ s' p (out : Array Value) (c : Nat) (ys : List Str), (∀ b o, s.heap.get? b = some o → s'.heap.get? b = some o) → s'.gens = s.gens → s'.os = s.os → s.heap.objs.size ≤ p → s'.heap.get? p = some (seqObj "list" out c) → StrsAre out.toList ys → sortedS ys = true → ys.Nodup → (∀ y, y ∈ ys ↔ S y = true) → ys.length = n → Q (.ref p) s') :
    wpAny (model P w) A (call (.builtin "sorted") [.ref a]) Q E s := by
  obtain ⟨o, es, ep, t, here, size, T⟩ := R
  refine Calls.call_function_entry kind_sorted plain_sorted entry_sorted (args_sorted1 _) ?_
  unfold Builtin.«sorted»
  refine wpAny_bind (m := checkCount "sorted" 1 1 _) (wpAny_pure ?_)
  apply wpAny_bind
  refine collect_set (A := A.in1) hh ⟨o, here, T.ex.1, T.da⟩ T.fit T.few T.ris T.led fun s1 vs keep grown gens os perm => ?_
  have len : vs.length = n := by rw [perm.length_eq, List.length_map, Array.length_toList, size]
  have allS : ∀ l : List Ent, (∀ e ∈ l, ∃ x u, e = (hashStr w x, Value.str x u)) → StrsAre (l.map (·.2)) (l.map kS) := by
    intro l
    induction l with
    | nil => exact fun _ => .nil
    | cons e r ih =>
      intro g
      obtain ⟨x, u, rfl⟩ := g e List.mem_cons_self
      exact .cons x u (ih fun f inn => g f (List.mem_cons_of_mem _ inn))
  have ofPerm : ∀ {l1 l2 : List Value}, l1.Perm l2 → ∀ {ys : List Str}, StrsAre l2 ys → ∃ zs, StrsAre l1 zs ∧ zs.Perm ys := by
    intro l1 l2 pm
    induction pm with
    | nil => exact fun h => ⟨_, h, List.Perm.refl _⟩
    | cons v _ ih =>
      intro ys h
      cases h with
      | cons x u h =>
        obtain ⟨zs, h1, h2⟩ := ih h
        exact ⟨x :: zs, .cons x u h1, h2.cons x⟩
    | swap v v' l =>
      intro ys h
      cases h with
      | cons x u h =>
        cases h with
        | cons y u' h => exact ⟨_, .cons y u' (.cons x u h), List.Perm.swap _ _ _⟩
    | trans _ _ ih1 ih2 =>
      intro ys h
      obtain ⟨zs, h1, h2⟩ := ih2 h
      obtain ⟨ws, h3, h4⟩ := ih1 h1
      exact ⟨ws, h3, h4.trans h2⟩
  obtain ⟨zs, hS, pz⟩ := ofPerm perm (allS _ T.good)
  apply wpAny_bind
  refine wpAny_newList ?_ (by rw [len]; exact hn)
  have hL : (s1.heap.push (seqObj "list" vs.toArray 0)).get? s1.heap.objs.size = some (seqObj "list" vs.toArray 0) := Heap.get?_push_size _ rfl
  apply wpAny_bind
  apply wpAny_holding
  refine wpAny_call_entry slot_list_sort ⟨_, hL, rfl⟩ entry_list_sort ?_ (args_list_sort _)
  refine list_sort_treeKAny strKind_oneLt hL hS.keysOf (fun v1 v2 rest e => keyKind_strs (by rw [← e]; exact hS)) (by rw [len]; exact hn) fun st' hp hs => ⟨_, rfl, ?_⟩
  obtain ⟨ys, a1, a2, a3⟩ := sorted_out_str hS hp hs
  generalize (arrOf st').map (·.2) = out at a1
  obtain ⟨c, hc⟩ := sortedHeap_at (vs := vs) (out := out) hL
  have pk : ys.Perm (es.toList.map kS) := a2.trans pz
  refine wpAny_pure ⟨_, rfl, k _ s1.heap.objs.size out c ys (fun b u e => ?_) gens os grown hc a1 a3 (pk.nodup_iff.mpr T.nd) (fun y => by rw [pk.mem_iff, ← T.mem y]) ?_⟩
  · have q := keep b u e
    have lt := Heap.lt_size q
    show (sortedHeap (s1.heap.push (seqObj "list" vs.toArray 0)) s1.heap.objs.size vs out).get? b = some u
    rw [sortedHeap_old (Nat.ne_of_lt lt) (by rw [size_push']; exact Nat.lt_succ_of_lt lt)]
    exact Heap.get?_push_of_some _ q
  · rw [pk.length_eq, List.length_map, Array.length_toList, size]
end
end MXm
/-! {x for .. in ..} of texts, sorted of it. -/
namespace MXn
open PySem PySem.Spec PyProof.Rows L2 MXm PpSet
def SetTO (w : World) (a : Addr) (S : Str → Bool) (n : Nat) : HO := .ext fun h => SetT w h a S n
theorem obj_of {w : World} {P : Program} {H : Hp} {h : Heap} {a : Addr} {S : Str → Bool} {n : Nat} (R : SetT w h a S n) : ObjOk P w H h a (SetTO w a S n) := by
  have ⟨o, _, _, _, e, _⟩ := R
  exact ⟨R, ⟨o, e⟩, fun h1 h2 p k => SetT.at p k⟩
section
variable {X : Cx}
theorem of_obj {pins : List (Addr × Obj)} {σ : L2.St} {H : Hp} {s : Shared} {a : Addr} {S : Str → Bool} {n : Nat} (I : Inv X pins σ H s) (e : H a = some (SetTO X.w a S n)) : SetT X.w s.heap a S n := (I.hok a _ e).1
theorem add_call {pins : List (Addr × Obj)} {σ : L2.St} {H : Hp} {s : Shared} {E : Value → Shared → Prop} {D : Addr} {S : Str → Bool} {n : Nat} {x : Str} {u : Tok} {Q : Value → Shared → Prop} (I : Inv X pins σ H s) (e : H D = some (SetTO X.w D S n)) (room : n + 1 < scanBound)
    (k : ∀ s', Inv X pins σ (upd H D (SetTO X.w D (fun y => S y || decide (y = x)) (if S x = true then n else n + 1))) s' → Q .none s') : wpAny (model X.prog X.w) X.A (call (.builtin "set.add") [.ref D, .str x u]) Q E s := by
  have R := of_obj I e
  have ⟨o, es, ep, t, here, _, T⟩ := R
  refine wpAny_call_entry F.slot_set_add ⟨o, here, T.ex.1⟩ F.entry_set_add ?_ (F.args_set_add_2 _ _)
  unfold Builtin.«set.add» Builtin.Frozenset.oneOther
  simp only [List.isEmpty_nil, bind_assoc]
  unfold Builtin.Frozenset.addrOf setAdd
  apply wpAny_bind
  apply wpAny_pure
  try dsimp only
  apply wpAny_bind
  apply wpAny_pure
  try dsimp only
  apply wpAny_bind
  apply wpAny_holding
  apply wpAny_bind
  refine (PySem.strKind X.prog X.w).pyHash (k := x) (PySem.strKind_is _ _ x u) ?_
  refine addT (s := { s with toks := s.toks + 1 }) R room fun h' sb new => ?_
  show wpAny _ _ (ret Value.none) _ _ _
  have there : ∃ v, h'.get? D = some v := by
    have ⟨o', _, _, _, e', _⟩ := new
    exact ⟨o', e'⟩
  exact wpAny_pure ⟨_, rfl, k _ (I.write (e := D) (t' := s.toks + 1) (by rw [e]; trivial) (.inl rfl) (fun b v nb hv => (sb.2 b nb).trans hv) there (obj_of new))⟩
/-- the wish of such a comprehension -/
def tSt (w : World) (wi : TI) (g : TG) (tt : TT) (te : TE) (vs : List Nat) : TE := fun σ H Q => wi σ H fun J H1 => ∀ D, H1 D = none → ∃ W : Nat → Nat → Hp → Prop, (∃ m, W 0 m (upd H1 D (SetTO w D (fun _ => false) 0))) ∧ ∀ i m H, W i m H →
  (J.stop i H ∧ Q (.ref D) H) ∨ (J.go i H ∧ ∃ Nx : Hp → Prop, (∀ H', Nx H' → ∃ m', m' < m ∧ W (i + 1) m' H') ∧ ∀ x H', J.yld i H x H' → g x (wipe σ vs) H' fun σ2 H2 => wipe σ2 vs = wipe σ vs ∧ tt σ2 H2 fun b H3 =>
    if b = true then te σ2 H3 fun y H4 => ∃ (c : Str) (S : Str → Bool) (n : Nat), y = .str c ∧ H4 D = some (SetTO w D S n) ∧ n + 1 < scanBound ∧ Nx (upd H4 D (SetTO w D (fun z => S z || decide (z = c)) (if S c = true then n else n + 1))) else Nx H3)
theorem pe_st {elt tg iter : Expr} {ifs : List Expr} {scope : Scope} {own : List (PySem.Str × Nat)} {pos : Pos} {wi : TI} {g : TG} {tt : TT} {te : TE} (calm : X.calm = true) (nd : X.N.Nodup) (hi : PI X tg iter wi) (ok : BlkOk X.N X.env.scope scope own)
    (hg : ∀ (s : Shared) (H : Hp) (C : Addr) (cl : List (PySem.Str × Addr)) (fp : List Addr), PG (X.blk s H scope (compEnvC scope cl C X.env) fp) tg g) (ht : ∀ (s : Shared) (H : Hp) (C : Addr) (cl : List (PySem.Str × Addr)) (fp : List Addr), PTs (X.blk s H scope (compEnvC scope cl C X.env) fp) ifs tt)
    (he : ∀ (s : Shared) (H : Hp) (C : Addr) (cl : List (PySem.Str × Addr)) (fp : List Addr), PE (X.blk s H scope (compEnvC scope cl C X.env) fp) elt te) (hs : ∀ x, foldedSetIterable iter X.env x = pure x := by intro _; rfl) :
    PE X (.SetComp elt [⟨tg, iter, ifs, 0⟩] scope pos) (tSt X.w wi g tt te (own.map (·.2))) := by
  constructor
  intro pins s σ H Q I want
  rw [eval_SetComp]
  have cells : ∀ y ∈ scope.names, y.2 = .free → ∃ c, X.env.cells.lookup y.1 = some c := fun y hy e => by
    rcases ok.free y hy e with z | z
    · exact I.ok.has _ (.inl z)
    · exact I.ok.has _ (.inr z)
  refine wpAny_comprehension_free rfl hs (closure_ok cells) ok.kind (fun y hy e => by rw [ok.uniq y hy, e]) (thn (hi.run pins s σ H _ I want) fun xv s1 hx => thn hx fun itv s2 h2 => ?_)
  obtain ⟨it, fp, tn, J, H2, rfl, I2, T, at2, off2, goal⟩ := h2
  refine newSet_ok (newEnv_comp ?_)
  generalize eD : s2.heap.objs.size = D
  have nD : H2 D = none := I2.hok.fresh (Nat.le_of_eq eD)
  obtain ⟨W, ⟨m0, w0⟩, turn⟩ := goal D nD
  generalize e3 : ({ s2 with heap := s2.heap.push { cls := .type "set", dict := none, data := .set #[] 0 (.fresh 0 0 (!X.w.params.followText "set-order")) } } : Shared) = s3
  have heap3 : s3.heap = s2.heap.push { cls := .type "set", dict := none, data := .set #[] 0 (.fresh 0 0 (!X.w.params.followText "set-order")) } := by rw [← e3]
  have I3 : Inv X pins σ (upd H2 D (SetTO X.w D (fun _ => false) 0)) s3 := by
    subst e3
    subst eD
    exact I2.laid (t' := s2.toks) (fun b o e => Heap.get?_push_of_some _ e) (Nat.le_refl _) (obj_of (fresh X.w))
  have below : ∀ b ∈ fp, b < s2.heap.objs.size := fun b inn => by
    obtain ⟨o, e, _⟩ := T.obj _ _ at2 b inn
    exact Heap.lt_size e
  have off3 : ∀ b ∈ fp, FpOk X pins (upd H2 D (SetTO X.w D (fun _ => false) 0)) b ∧ b < s3.heap.objs.size := fun b inn => by
    have lt := below b inn
    constructor
    · refine ⟨?_, (off2 b inn).2⟩
      rw [upd_ne (by rw [← eD]; exact Nat.ne_of_lt lt)]
      exact (off2 b inn).1
    · rw [heap3, Heap.size_push]
      exact Nat.lt_succ_of_lt lt
  have at3 : tn 0 s3.heap := T.keep _ _ _ at2 fun b _ o e => by
    rw [heap3]
    exact Heap.get?_push_of_some _ e
  have I4 := block_start I3 ok nd off3
  have pg := hg s3 (upd H2 D (SetTO X.w D (fun _ => false) 0)) s3.heap.objs.size (cellsFrom (s3.heap.objs.size + 1) scope.names (cloFrom X.env.cells scope.names [])) fp
  have pt := ht s3 (upd H2 D (SetTO X.w D (fun _ => false) 0)) s3.heap.objs.size (cellsFrom (s3.heap.objs.size + 1) scope.names (cloFrom X.env.cells scope.names [])) fp
  have pe := he s3 (upd H2 D (SetTO X.w D (fun _ => false) 0)) s3.heap.objs.size (cellsFrom (s3.heap.objs.size + 1) scope.names (cloFrom X.env.cells scope.names [])) fp
  have off : ∀ b ∈ fp, (upd H2 D (SetTO X.w D (fun _ => false) 0)) b = none := fun b inn => (off3 b inn).1.1
  show codeAny _ _ (.compStart (.SetComp elt [⟨tg, iter, ifs, 0⟩] scope pos) 0 (.ref it) (.ref D) (compEnvC scope (cellsFrom (s3.heap.objs.size + 1) scope.names (cloFrom X.env.cells scope.names [])) s3.heap.objs.size X.env)) _ { s3 with heap := pushCells (s3.heap.push { cls := .type "dict", data := .dict #[] }) scope.names }
  generalize eC : compEnvC scope (cellsFrom (s3.heap.objs.size + 1) scope.names (cloFrom X.env.cells scope.names [])) s3.heap.objs.size X.env = ce at I4 pg pt pe ⊢
  have loc : ce.locals = s3.heap.objs.size := by rw [← eC]; rfl
  generalize upd H2 D (SetTO X.w D (fun _ => false) 0) = H3 at I3 I4 pg pt pe w0 off off3
  generalize e4 : ({ s3 with heap := pushCells (s3.heap.push { cls := .type "dict", data := .dict #[] }) scope.names } : Shared) = s4 at I4 ⊢
  have at4 : tn 0 s4.heap := T.keep _ _ _ at3 fun b _ o e => by
    rw [← e4]
    exact pushCells_keeps _ _ _ _ (Heap.get?_push_of_some _ e)
  have still : ∀ {τ : L2.St} {G : Hp} {s' : Shared}, Inv (X.blk s3 H3 scope ce fp) [] τ G s' → (∀ b ∈ fp, G b = none) → ∀ b ∈ fp, FpOk (X.blk s3 H3 scope ce fp) [] G b := by
    intro τ G s' I' no b inn
    exact ⟨no b inn, (I'.ok.exf b inn).1, I'.ok.exfs b inn, .inl inn, fun x c e => (I'.ok.exf b inn).2 x c e, fun p hp => absurd (show p ∈ ([] : List (Addr × Obj)) ++ [] from hp) (by simp)⟩
  refine codeAny_compStart_set ?_ (T.self X.A 0 _ _ _ at4 ?_)
  all_goals
    refine compLoopS_any (fun n s' => ∃ i G, Inv (X.blk s3 H3 scope ce fp) [] (wipe σ (own.map (·.2))) G s' ∧ tn i s'.heap ∧ (∀ b ∈ fp, G b = none) ∧ W i n G) ?_ m0 ⟨0, H3, I4, at4, off, w0⟩
    rintro n s5 ⟨i, G5, I5, at5, off5, w5⟩
    rcases turn i n G5 w5 with ⟨stop, done⟩ | ⟨go, Nx, next, step⟩
    · have ends := T.done (X.blk s3 H3 scope ce fp) rfl rfl rfl calm i [] s5 _ G5 (fun _ _ => False) I5 (still I5 off5) at5 stop
      refine thnF ends fun r s6 z => ?_
      obtain ⟨rfl, I6⟩ := z
      have I7 : Inv X pins σ G5 s6 := I3.call' (ch := fp) I6.os I6.base I6.hok I6.bare fun b inn => ⟨(off3 b inn).1.2.2.2.1, (off3 b inn).1.2.1, (off3 b inn).1.2.2.2.2.1, (off3 b inn).1.2.2.2.2.2⟩
      have nC : G5 s3.heap.objs.size = none := loc ▸ (show G5 ce.locals = none from I6.free)
      obtain ⟨m, hn, _⟩ := I6.loc
      have hn2 : s6.heap.Ns s3.heap.objs.size m := loc ▸ (show s6.heap.Ns ce.locals m from hn)
      refine ⟨m, hn2, fun h'' sb => ?_⟩
      obtain ⟨f0, f1, f2, f3, f4, f5⟩ := I3.fpOk (Nat.le_refl _) nC
      exact ⟨.ref D, G5, I7.turned (t' := s6.toks) (fun b o nb e => (sb.2 b nb).trans e) f0 f1 f3 f4 f5, rfl, done⟩
    · have more := T.item (X.blk s3 H3 scope ce fp) rfl rfl rfl calm i [] s5 _ G5 (fun _ _ => False) I5 (still I5 off5) at5 go
      refine thnF more fun r s6 z => ?_
      obtain ⟨u, rfl, h6⟩ := z
      refine thnF h6 fun _ s7 z => ?_
      obtain ⟨x, G7, I7, r7, y7, at7, off7⟩ := z
      have I8 := I7.pinned (still I7 off7) (T.obj _ _ at7)
      refine thnF (pg.run _ s7 _ G7 x u _ I8 r7 (step x G7 y7)) fun _ s8 z => ?_
      obtain ⟨τ, G8, J8, same, q8⟩ := z
      refine thnF (pt.run _ s8 τ G8 _ J8 q8) fun b s9 z => ?_
      obtain ⟨G9, J9, q9⟩ := z
      have over : ∀ {s' : Shared} {G' : Hp}, Inv (X.blk s3 H3 scope ce fp) ([] ++ pinsAt fp s7.heap) τ G' s' → Nx G' → ∃ m, m < n ∧ ∃ i G, Inv (X.blk s3 H3 scope ce fp) [] (wipe σ (own.map (·.2))) G s' ∧ tn i s'.heap ∧ (∀ b ∈ fp, G b = none) ∧ W i m G := by
        intro s' G' I' nx
        obtain ⟨m', lt, w'⟩ := next G' nx
        have kept : ∀ b ∈ fp, ∀ o, s7.heap.get? b = some o → s'.heap.get? b = some o ∧ G' b = none := fun b inn o e => by
          have z := I'.pin (b, o) (List.mem_append_right _ (List.mem_append_right _ (mem_pinsAt inn e)))
          exact ⟨z.1, z.2.1⟩
        have len : (wipe σ (own.map (·.2))).length = τ.length := by rw [← same, wipe_length]
        refine ⟨m', lt, i + 1, G', (I'.unpinned (pins := [])).weak len (fun j v e => ?_), T.keep _ _ _ at7 fun b inn o e => (kept b inn o e).1, fun b inn => ?_, w'⟩
        · rw [← same] at e
          exact (wipe_some e).1
        · obtain ⟨o, e, _⟩ := T.obj _ _ at7 b inn
          exact (kept b inn o e).2
      cases b with
      | false =>
        simp only [Bool.false_eq_true, if_false] at q9 ⊢
        exact over J9 q9
      | true =>
        simp only [if_true] at q9 ⊢
        refine thnF (pe.run _ s9 τ G9 _ J9 q9) fun v s10 z => ?_
        obtain ⟨y, G10, J10, r10, c, S0, n0, rfl, hD, room, nx⟩ := z
        obtain ⟨tk, rfl⟩ := (show ∃ t, v = Value.str c t from r10)
        exact add_call (X := X.blk s3 H3 scope ce fp) J10 hD room fun s11 J11 => over J11 nx
/-- sorted of such a set -/
def rSortT (w : World) : List V → Hp → VK → Prop := fun vs H Q => ∃ (a : Addr) (S : Str → Bool) (n : Nat), vs = [V.ref a] ∧ H a = some (SetTO w a S n) ∧ n ≤ sizeLine ∧
  ∀ (ys : List Str) (p : Addr), sortedS ys = true → ys.Nodup → (∀ y, y ∈ ys ↔ S y = true) → H p = none → Q (.ref p) (upd H p (.lst (ys.map V.str)))
theorem cr_sortT (calm : X.calm = true) : CallR X (.builtin "sorted") (rSortT X.w) := by
  intro pins s σ H vs us Q I r h
  obtain ⟨a, S, n, rfl, e, hn, k⟩ := h
  rw [Vals.ref1 r]
  refine sortT (of_obj I e) (I.ok.hd calm) hn fun s' p out c ys keep g o hp hg hi hs nd hm hl => ?_
  have len : (ys.map V.str).length ≤ sizeLine := by rw [List.length_map, hl]; exact hn
  have free : H p = none := I.hok.fresh hp
  have J : Inv X pins σ (upd H p (.lst (ys.map V.str))) { s with heap := s'.heap, gens := s'.gens, drawn := s'.drawn, toks := s'.toks } := by
    refine I.call (ch := []) (Un.laid keep hp free) (I.hok.laid keep hp ⟨len, out.toList, c, vals_of_strs hi, hg⟩) ?_ (fun _ z => nomatch z)
    rw [g]
    exact I.bare
  have whole : s' = { s with heap := s'.heap, gens := s'.gens, drawn := s'.drawn, toks := s'.toks } := by
    cases s'
    cases s
    cases o
    rfl
  rw [whole]
  exact ⟨.ref p, _, J, rfl, k ys p hs nd hm free⟩
end
end MXn
namespace MXn
open PySem PySem.Spec PyProof.Rows L2 MXm
/-- over a list that the block leaves as it is -/
theorem st_list {w : World} {K : PySem.W.Frag} {a : Addr} {xs : List V} {g : TG} {tt : TT} {te : TE} {vs : List Nat} {σ : L2.St} {H1 : Hp} {D : Addr} {R : Hp → Prop} (I : Nat → Hp → Prop) (start : I 0 (upd H1 D (SetTO w D (fun _ => false) 0))) (there : ∀ i H, i ≤ xs.length → I i H → SqL K H a xs)
    (turn : ∀ i x H, xs[i]? = some x → I i H → g x (wipe σ vs) H fun σ2 H2 => wipe σ2 vs = wipe σ vs ∧ tt σ2 H2 fun b H3 => if b = true then te σ2 H3 fun y H4 => ∃ (c : Str) (S : Str → Bool) (n : Nat), y = .str c ∧ H4 D = some (SetTO w D S n) ∧ n + 1 < scanBound ∧
      I (i + 1) (upd H4 D (SetTO w D (fun z => S z || decide (z = c)) (if S c = true then n else n + 1))) else I (i + 1) H3) (fin : ∀ H, I xs.length H → R H) :
    ∃ W : Nat → Nat → Hp → Prop, (∃ m, W 0 m (upd H1 D (SetTO w D (fun _ => false) 0))) ∧ ∀ i m H, W i m H → ((Itl K a).stop i H ∧ R H) ∨ ((Itl K a).go i H ∧ ∃ Nx : Hp → Prop, (∀ H', Nx H' → ∃ m', m' < m ∧ W (i + 1) m' H') ∧ ∀ x H', (Itl K a).yld i H x H' →
      g x (wipe σ vs) H' fun σ2 H2 => wipe σ2 vs = wipe σ vs ∧ tt σ2 H2 fun b H3 => if b = true then te σ2 H3 fun y H4 => ∃ (c : Str) (S : Str → Bool) (n : Nat), y = .str c ∧ H4 D = some (SetTO w D S n) ∧ n + 1 < scanBound ∧ Nx (upd H4 D (SetTO w D (fun z => S z || decide (z = c)) (if S c = true then n else n + 1))) else Nx H3) := by
  refine ⟨fun i m H => m = xs.length - i ∧ i ≤ xs.length ∧ I i H, ⟨_, by rw [Nat.sub_zero], Nat.zero_le _, start⟩, ?_⟩
  rintro i m H ⟨rfl, le, inv⟩
  have seq := there i H le inv
  rcases Nat.lt_or_ge i xs.length with lt | ge
  · refine Or.inr ⟨⟨xs, xs[i], seq, by simp [lt]⟩, I (i + 1), fun H' inv' => ⟨xs.length - (i + 1), by omega, rfl, lt, inv'⟩, ?_⟩
    rintro x H' ⟨rfl, y⟩
    exact turn i x _ (y xs seq) inv
  · obtain rfl : i = xs.length := Nat.le_antisymm le ge
    exact Or.inl ⟨⟨xs, seq, Nat.le_refl _⟩, fin H inv⟩
end MXn
namespace T6
open PySem PySem.Spec PyProof.Rows L2 LK MXn
/-- a loop's thread -/
def thrOf : PyData → Str
  | .tuple (.str s :: _) => s
  | _ => ⟨#[]⟩
/-- each is a pair with a thread ahead -/
def Pairs (ds : List PyData) : Prop := ∀ d ∈ ds, ∃ s p, d = .tuple [.str s, p]
def spNam (K : PySem.W.Frag) (C : Addr) : Sp := fun vs H Q _ => ∃ (x dx L : Addr) (fs : List (Str × V)) (xs : List V) (ds : List PyData), vs = [.ref x] ∧ H x = some (.ins C dx fs) ∧ Cls K C ∧ NoAttr K C "_loops" ∧ fs.lookup ("_loops" : Str) = some (.ref L) ∧ H L = some (.lst xs) ∧ DpAll K H xs ds ∧ Pairs ds ∧ ds.length ≤ 1000 ∧
  ∀ (ys : List Str) (p : Addr) (H' : Hp), sortedS ys = true → ys.Nodup → (∀ y, y ∈ ys ↔ y ∈ ds.map thrOf) → Same H H' → H p = none → H' p = some (.lst (ys.map V.str)) → Q (.ref p) H'
section
variable {P : Program} {w : World} {K : PySem.W.Frag} {mg : Str → Option Value} {base : Heap} {C : Addr}
end
end T6
/-! Sorted texts: two sorted lists without doubles and with the same members are one; what is left when equal neighbours are thrown out. -/
namespace LK
open PySem PySem.Spec PyProof.Rows L2
/-- a is not behind b -/
def leS (a b : Str) : Prop := ¬ b.cps.toList < a.cps.toList
theorem leS_trans {a b c : Str} (h : leS a b) (k : leS b c) : leS a c := List.not_lt.mpr (List.le_trans (List.not_lt.mp h) (List.not_lt.mp k))
theorem leS_anti {a b : Str} (h : leS a b) (k : leS b a) : a = b := by
  have e : a.cps.toList = b.cps.toList := List.le_antisymm (List.not_lt.mp h) (List.not_lt.mp k)
  obtain ⟨a⟩ := a
  obtain ⟨b⟩ := b
  exact congrArg Str.mk (Array.toList_inj.mp e)
theorem rising_pw : ∀ (r : List Str) (p : Str), risingS p r = true → (p :: r).Pairwise leS
  | [], p, _ => List.pairwise_singleton _ _
  | x :: r, p, h => by
    rw [risingS, Bool.and_eq_true] at h
    obtain ⟨h1, h2⟩ := h
    have t := rising_pw r x h2
    have px : leS p x := by
      unfold leS
      rw [ltCps_eq] at h1
      simpa using h1
    refine List.pairwise_cons.mpr ⟨fun y hy => ?_, t⟩
    rcases List.mem_cons.mp hy with rfl | hy
    · exact px
    · exact leS_trans px ((List.pairwise_cons.mp t).1 y hy)
theorem sorted_pw {l : List Str} (h : sortedS l = true) : l.Pairwise leS := by
  cases l with
  | nil => exact List.Pairwise.nil
  | cons x r => exact rising_pw r x h
theorem uniq_sorted : ∀ {l m : List Str}, l.Pairwise leS → m.Pairwise leS → l.Nodup → m.Nodup → (∀ x, x ∈ l ↔ x ∈ m) → l = m
  | [], [], _, _, _, _, _ => rfl
  | [], y :: m, _, _, _, _, h => absurd ((h y).2 List.mem_cons_self) List.not_mem_nil
  | x :: l, [], _, _, _, _, h => absurd ((h x).1 List.mem_cons_self) List.not_mem_nil
  | x :: l, y :: m, pl, pm, nl, nm, h => by
    obtain ⟨l1, l2⟩ := List.pairwise_cons.mp pl
    obtain ⟨m1, m2⟩ := List.pairwise_cons.mp pm
    obtain ⟨l3, l4⟩ := List.nodup_cons.mp nl
    obtain ⟨m3, m4⟩ := List.nodup_cons.mp nm
    have xy : x = y := by
      rcases List.mem_cons.mp ((h x).1 List.mem_cons_self) with e | e
      · exact e
      · rcases List.mem_cons.mp ((h y).2 List.mem_cons_self) with e' | e'
        · exact e'.symm
        · exact leS_anti (l1 y e') (m1 x e)
    subst xy
    refine congrArg (x :: ·) (uniq_sorted l2 m2 l4 m4 fun z => ?_)
    constructor
    · intro hz
      rcases List.mem_cons.mp ((h z).1 (List.mem_cons_of_mem _ hz)) with e | e
      · subst e
        exact absurd hz l3
      · exact e
    · intro hz
      rcases List.mem_cons.mp ((h z).2 (List.mem_cons_of_mem _ hz)) with e | e
      · subst e
        exact absurd hz m3
      · exact e
/-- item k stays where it is not its left neighbour -/
def newAt (zs : List Str) (k : Nat) : Bool := decide (k = 0) || !decide (zs[k]? = zs[k - 1]?)
/-- what is left of the first i -/
def leftS (zs : List Str) (i : Nat) : List Str := ((List.range i).filter (newAt zs)).filterMap (zs[·]?)
theorem left_succ {zs : List Str} {i : Nat} {x : Str} (h : zs[i]? = some x) : leftS zs (i + 1) = if newAt zs i = true then leftS zs i ++ [x] else leftS zs i := by
  unfold leftS
  rw [List.range_succ, List.filter_append, List.filterMap_append]
  by_cases q : newAt zs i = true
  · rw [if_pos q, List.filter_cons_of_pos q, List.filter_nil, List.filterMap_cons, h]
    rfl
  · rw [if_neg q, List.filter_cons_of_neg q, List.filter_nil, List.filterMap_nil, List.append_nil]
theorem left_len (zs : List Str) (i : Nat) : (leftS zs i).length ≤ i := by
  unfold leftS
  refine Nat.le_trans (List.length_filterMap_le _ _) (Nat.le_trans (List.length_filter_le _ _) ?_)
  rw [List.length_range]
  exact Nat.le_refl _
theorem left_sound {zs : List Str} (pw : zs.Pairwise leS) : ∀ i, i ≤ zs.length → (leftS zs i).Pairwise leS ∧ (leftS zs i).Nodup ∧ ∀ x, x ∈ leftS zs i ↔ x ∈ zs.take i
  | 0, _ => ⟨List.Pairwise.nil, List.nodup_nil, fun x => by simp [leftS]⟩
  | i + 1, hi => by
    obtain ⟨h1, h2, h3⟩ := left_sound pw i (Nat.le_of_succ_le hi)
    have at_ : zs[i]? = some zs[i] := List.getElem?_eq_getElem hi
    have tk : zs.take (i + 1) = zs.take i ++ [zs[i]] := by rw [List.take_add_one, at_]; rfl
    have before : ∀ y ∈ zs.take i, leS y zs[i] := fun y hy => by
      obtain ⟨j, hj, rfl⟩ := List.getElem_of_mem hy
      rw [List.length_take] at hj
      rw [List.getElem_take]
      exact List.pairwise_iff_getElem.mp pw j i (by omega) hi (by omega)
    rw [left_succ at_, tk]
    by_cases q : newAt zs i = true
    · rw [if_pos q]
      have fresh : zs[i] ∉ zs.take i := fun hy => by
        cases i with
        | zero => simp at hy
        | succ k =>
          have q' : ¬ zs[k + 1]? = zs[k]? := by simpa [newAt] using q
          have last : leS zs[k + 1] zs[k] := by
            obtain ⟨j, hj, e⟩ := List.getElem_of_mem hy
            rw [List.length_take] at hj
            rw [List.getElem_take] at e
            rw [← e]
            rcases Nat.lt_or_ge j k with lt | ge
            · exact List.pairwise_iff_getElem.mp pw j k (by omega) (by omega) lt
            · obtain rfl : j = k := by omega
              exact fun z => absurd z (List.lt_irrefl _)
          have e := leS_anti last (before _ (by
            have : zs[k] = (zs.take (k + 1))[k]'(by rw [List.length_take]; omega) := by rw [List.getElem_take]
            rw [this]
            exact List.getElem_mem _))
          exact q' (by rw [List.getElem?_eq_getElem hi, List.getElem?_eq_getElem (by omega : k < zs.length), e])
      refine ⟨List.pairwise_append.mpr ⟨h1, List.pairwise_singleton _ _, fun y hy z hz => ?_⟩, List.nodup_append.mpr ⟨h2, (by simp), fun y hy z hz => ?_⟩, fun x => ?_⟩
      · obtain rfl := List.mem_singleton.mp hz
        exact before y ((h3 y).1 hy)
      · obtain rfl := List.mem_singleton.mp hz
        exact fun e => fresh (e ▸ (h3 y).1 hy)
      · rw [List.mem_append, List.mem_append, h3 x]
    · rw [if_neg q]
      refine ⟨h1, h2, fun x => ?_⟩
      rw [List.mem_append, h3 x, List.mem_singleton]
      refine ⟨Or.inl, fun z => z.elim id fun e => ?_⟩
      cases i with
      | zero => exact absurd (by rfl : newAt zs 0 = true) q
      | succ k =>
        have q' : zs[k + 1]? = zs[k]? := by simpa [newAt] using q
        rw [List.getElem?_eq_getElem hi, List.getElem?_eq_getElem (by omega : k < zs.length)] at q'
        rw [e, Option.some.inj q']
        have : zs[k] = (zs.take (k + 1))[k]'(by rw [List.length_take]; omega) := by rw [List.getElem_take]
        rw [this]
        exact List.getElem_mem _
/-- the sorted texts without doubles -/
theorem left_all {zs ys : List Str} (h : sortedS zs = true) (h1 : sortedS ys = true) (h2 : ys.Nodup) (h3 : ∀ y, y ∈ ys ↔ y ∈ zs) : leftS zs zs.length = ys := by
  obtain ⟨a, b, c⟩ := left_sound (sorted_pw h) zs.length (Nat.le_refl _)
  refine uniq_sorted a (sorted_pw h1) b h2 fun x => ?_
  rw [c x, List.take_length, h3 x]
end LK
namespace T6
open PySem PySem.Spec PyProof.Rows L2 LK MXi
/-- a cloth at x with the loops ls, the fast ones ms -/
def IsC (K : PySem.W.Frag) (CC : Addr) (H : Hp) (x : Addr) (ls : List Lp) (ms : List Int) : Prop := ∃ (dx L G : Addr) (xs : List V), H x = some (.ins CC dx [("_loops", .ref L), ("_fast", .ref G)]) ∧ H L = some (.lst xs) ∧ DpAll K H xs (ls.map lpD) ∧ H G = some (.lst (ms.map V.int))
theorem IsC.same {K : PySem.W.Frag} {CC : Addr} {H H' : Hp} {x : Addr} {ls : List Lp} {ms : List Int} (h : IsC K CC H x ls ms) (s : Same H H') : IsC K CC H' x ls ms := by
  obtain ⟨dx, L, G, xs, h1, h2, h3, h4⟩ := h
  exact ⟨dx, L, G, xs, s _ _ h1, s _ _ h2, dps_same s h3, s _ _ h4⟩
def spTold (K : PySem.W.Frag) (CC : Addr) : Sp := fun vs H Q _ => ∃ (x : Addr) (u v : V) (ls : List Lp) (ns ms : List Int), vs = [.ref x, u, v] ∧ IsC K CC H x ls ms ∧ Dp K H u (.list (ls.map lpD)) ∧ Dp K H v (.list (ns.map PyData.int)) ∧ ms.Perm ns ∧ ms.Pairwise (· ≤ ·) ∧ ls.length ≤ 63 ∧ PyData.canLayAll0 (ls.map lpD) = true ∧ (∀ l ∈ ls, l.2.length ≤ 1000) ∧ ns.length ≤ 1000 ∧ ∀ H', Same H H' → Q (.bl true) H'
/-- the properties and len -/
structure Prp (P : Program) (w : World) (K : PySem.W.Frag) (mg : Str → Option Value) (base : Heap) (CC : Addr) where
  (pL pF pT gL gF gT gN : Addr)
  (fL fF fT fN : FuncData)
  aL : PropOf K CC "loops" pL gL
  aF : PropOf K CC "fast" pF gF
  aT : PropOf K CC "threads" pT gT
  aN : LenOf K CC gN
  bL : Binds K fL ["self"] []
  bF : Binds K fF ["self"] []
  bT : Binds K fT ["self"] []
  bN : Binds K fN ["self"] []
  oL : FnOk P w K mg base CX0 1 gL fL ["self"] (spCopy K CC "_loops")
  oF : FnOk P w K mg base CX0 1 gF fF ["self"] (spCopy K CC "_fast")
  oT : FnOk P w K mg base CX0 1 gT fT ["self"] (spNam K CC)
  oN : FnOk P w K mg base CX0 1 gN fN ["self"] (spSize K CC)
theorem lps_pairs (ls : List Lp) : Pairs (ls.map lpD) := fun d hd => by
  obtain ⟨l, _, rfl⟩ := List.mem_map.mp hd
  exact ⟨_, _, rfl⟩
theorem thr_lps (ls : List Lp) : (ls.map lpD).map thrOf = ls.map (·.1) := by
  rw [List.map_map]
  rfl
theorem few_ints : ∀ ns : List Int, fewAll (ns.map PyData.int) = true
  | [] => rfl
  | _ :: r => few_ints r
theorem few_strs : ∀ ns : List Str, fewAll (ns.map PyData.str) = true
  | [] => rfl
  | _ :: r => few_strs r
theorem lay_ints : ∀ ns : List Int, PyData.canLayAll0 (ns.map PyData.int) = true ∧ PyData.depthAll (ns.map PyData.int) = 0
  | [] => ⟨rfl, rfl⟩
  | n :: r => by
    obtain ⟨a, b⟩ := lay_ints r
    constructor
    · rw [List.map_cons, PyData.canLayAll0, a]
      rfl
    · simp only [List.map_cons, PyData.depthAll, PyData.depth, b]
      rfl
theorem lay_strs : ∀ ns : List Str, (∀ n ∈ ns, (PyData.str n).canLay0 = true) → PyData.canLayAll0 (ns.map PyData.str) = true ∧ PyData.depthAll (ns.map PyData.str) = 0
  | [], _ => ⟨rfl, rfl⟩
  | n :: r, h => by
    obtain ⟨a, b⟩ := lay_strs r fun m hm => h m (List.mem_cons_of_mem _ hm)
    constructor
    · rw [List.map_cons, PyData.canLayAll0, a, h n List.mem_cons_self]
      rfl
    · simp only [List.map_cons, PyData.depthAll, PyData.depth, b]
      rfl
theorem few_lp {l : Lp} (h : l.2.length ≤ 1000) : few (lpD l) = true := by
  have q : few (.tuple (l.2.map PyData.int)) = true := by
    unfold few
    rw [few_ints, Bool.and_true, List.length_map]
    exact decide_eq_true (by omega)
  show (decide (2 ≤ 1000000) && (few (.str l.1) && (few (.tuple (l.2.map PyData.int)) && true))) = true
  rw [q]
  rfl
theorem lps_all : ∀ {ls : List Lp}, (∀ l ∈ ls, l.2.length ≤ 1000) → fewAll (ls.map lpD) = true ∧ PyData.depthAll (ls.map lpD) ≤ 2
  | [], _ => ⟨rfl, Nat.zero_le _⟩
  | l :: r, h => by
    obtain ⟨a, c⟩ := lps_all (ls := r) fun m hm => h m (List.mem_cons_of_mem _ hm)
    obtain ⟨_, e⟩ := lay_ints l.2
    refine ⟨?_, ?_⟩
    · rw [List.map_cons, fewAll, a, few_lp (h l List.mem_cons_self)]
      rfl
    · simp only [List.map_cons, PyData.depthAll, lpD, PyData.depth, e]
      omega
theorem lay_thr {ls : List Lp} (h : PyData.canLayAll0 (ls.map lpD) = true) : ∀ n ∈ ls.map (·.1), (PyData.str n).canLay0 = true := fun n hn => by
  obtain ⟨l, hl, rfl⟩ := List.mem_map.mp hn
  have q := lay_mem h (List.mem_map.mpr ⟨l, hl, rfl⟩)
  have q2 : PyData.canLayAll0 [.str l.1, .tuple (l.2.map PyData.int)] = true := by simpa only [lpD, PyData.canLay0] using q
  exact lay_mem q2 List.mem_cons_self
theorem ints_back {K : PySem.W.Frag} {H : Hp} : ∀ {vs : List V} {ns : List Int}, DpAll K H vs (ns.map PyData.int) → vs = ns.map V.int
  | _, [], .nil => rfl
  | _, n :: r, .cons (.int _) t => by rw [ints_back t]; rfl
theorem dp_strs {K : PySem.W.Frag} {H : Hp} : ∀ ys : List Str, DpAll K H (ys.map V.str) (ys.map PyData.str)
  | [] => .nil
  | y :: r => .cons (.str y) (dp_strs r)
theorem same_two {H : Hp} {p : Addr} {o o' : HO} (h : H p = none) : Same H (L2.upd (L2.upd H p o) p o') := fun b u e => by
  rw [upd_ne (ne_of_none e h), upd_ne (ne_of_none e h)]
  exact e
theorem sz63 {n : Nat} (h : n ≤ 1000) : n < sizeLine := Nat.lt_of_le_of_lt h (by decide)
section
variable {P : Program} {w : World} {K : PySem.W.Frag} {mg : Str → Option Value} {base : Heap} {CC : Addr}
end
end T6
/-! Data that str() may be asked of: no dicts, ints and texts that are not too long. -/
namespace LK
open PySem PySem.Spec PyProof.Rows L2 MXk
mutual
def neat : PyData → Bool
  | .none | .bool _ => true
  | .int i => decide (i.natAbs < 10 ^ 40)
  | .str x => decide (x.cps.size ≤ 40)
  | .list xs | .tuple xs => neatAll xs
  | .dict _ => false
def neatAll : List PyData → Bool
  | [] => true
  | x :: r => neat x && neatAll r
end
/-- neat, and not heavy -/
def Nice (d : PyData) : Prop := neat d = true ∧ d.weight ≤ 400
theorem log_of {i : Int} (h : i.natAbs < 10 ^ 40) : i.natAbs.log2 < 140 := by
  by_cases z : i.natAbs = 0
  · rw [z]
    decide
  · exact (Nat.log2_lt z).mpr (Nat.lt_of_lt_of_le h (by decide))
mutual
theorem neat_shows : ∀ d : PyData, neat d = true → d.showable = true ∧ d.hasDict = false ∧ d.intsShort 41 = true
  | .none, _ => ⟨rfl, rfl, rfl⟩
  | .bool _, _ => ⟨rfl, rfl, rfl⟩
  | .str _, _ => ⟨rfl, rfl, rfl⟩
  | .int i, h => by
    have q : i.natAbs < 10 ^ 40 := of_decide_eq_true h
    refine ⟨decide_eq_true (Nat.lt_trans (log_of q) (by decide)), rfl, decide_eq_true ?_⟩
    have e := int_text_length_le10 (k := 40) (by decide) q
    show (Str.ofString (toString i)).length ≤ 41
    rw [PySem.ofString_length]
    exact e
  | .list xs, h => by
    obtain ⟨a, b, c⟩ := neat_showsAll xs h
    exact ⟨a, b, c⟩
  | .tuple xs, h => by
    obtain ⟨a, b, c⟩ := neat_showsAll xs h
    exact ⟨a, b, c⟩
  | .dict _, h => Bool.noConfusion h
theorem neat_showsAll : ∀ xs : List PyData, neatAll xs = true → PyData.showableAll xs = true ∧ PyData.hasDictAll xs = false ∧ PyData.intsShortAll 41 xs = true
  | [], _ => ⟨rfl, rfl, rfl⟩
  | x :: r, h => by
    rw [neatAll, Bool.and_eq_true] at h
    obtain ⟨a, b, c⟩ := neat_shows x h.1
    obtain ⟨a', b', c'⟩ := neat_showsAll r h.2
    refine ⟨?_, ?_, ?_⟩
    · rw [PyData.showableAll, a, a']
      rfl
    · rw [PyData.hasDictAll, b, b']
      rfl
    · rw [PyData.intsShortAll, c, c']
      rfl
end
theorem shown_ok {d : PyData} (h : neat d = true) (lay : d.canLay0 = true) (w : d.weight ≤ 300000) : d.showable = true ∧ d.hasDict = false ∧ d.shown.length ≤ sizeLine := by
  obtain ⟨a, b, c⟩ := neat_shows d h
  refine ⟨a, b, ?_⟩
  have q := PyData.shown_le 41 (by decide) d (PyData.leavesShort_of_canLay0 41 d lay c)
  rw [sizeLine_eq]
  have q2 : (41 + 2) * d.weight ≤ 43 * 300000 := Nat.mul_le_mul_left _ w
  omega
/-- the text of a datum -/
def textD : PyData → Str
  | .str x => x
  | .none => "None"
  | .bool b => if b then "True" else "False"
  | .int i => Str.ofString (toString i)
  | d => d.shown
def rStrA (K : PySem.W.Frag) : List V → Hp → VK → Prop := fun xs H Q => ∃ (v : V) (d : PyData), xs = [v] ∧ Dp K H v d ∧ neat d = true ∧ d.canLay0 = true ∧ d.weight ≤ 300000 ∧ d.depth ≤ 20 ∧ Q (.str (textD d)) H
section
variable {X : Cx}
theorem cr_strA (hg : X.A.guards = some []) (hu : X.A.units + 64 < cLine) : CallR X (.type "str") (rStrA X.K) := by
  intro pins s σ H xs us Q I r h
  obtain ⟨v, d, rfl, hd, ne, lay, we, dp, q⟩ := h
  obtain ⟨s1, s2, s3⟩ := shown_ok ne lay we
  obtain ⟨u, e, ru⟩ := vals1 r
  subst e
  cases hd with
  | non =>
    cases (show u = Value.none from ru)
    exact PySem.P.str_of_none ⟨.str _, H, I.tok _, ⟨_, rfl⟩, q⟩
  | bl b =>
    cases (show u = Value.bool b from ru)
    exact PySem.P.str_of_bool ⟨.str _, H, I.tok _, ⟨_, rfl⟩, q⟩
  | int i => exact call_str_int pins s σ H _ _ Q I r ⟨i, rfl, of_decide_eq_true s1, q⟩
  | str x => exact SkE.call_str_str pins s σ H _ _ Q I r ⟨x, rfl, q⟩
  | lst sq al => exact cr_strD hg hu pins s σ H _ _ Q I r ⟨_, _, rfl, .lst sq al, s1, s2, dp, s3, q⟩
  | tup sq al => exact cr_strD hg hu pins s σ H _ _ Q I r ⟨_, _, rfl, .tup sq al, s1, s2, dp, s3, q⟩
end
end LK
namespace LK
open PySem
theorem nice_int {i : Int} (h : i.natAbs < 10 ^ 40) : Nice (.int i) := by
  refine ⟨decide_eq_true h, ?_⟩
  unfold PyData.weight
  split
  · exact Nat.zero_le _
  · have := log_of h
    omega
end LK
/-! What str() gives is a text that can be laid. -/
namespace LK
open PySem PySem.Spec PyProof.Rows L2
def OkT (x : Str) : Prop := ∀ c ∈ x.cps.toList, c < 0x110000
theorem okT_iff {x : Str} : PyData.strOk x = true ↔ OkT x := by
  unfold PyData.strOk OkT
  rw [Array.all_eq_true_iff_forall_mem]
  constructor
  · intro h c hc
    have := h c (Array.mem_toList_iff.mp hc)
    simpa using this
  · intro h c hc
    have := h c (Array.mem_toList_iff.mpr hc)
    simpa using this
theorem OkT.app {x y : Str} (a : OkT x) (b : OkT y) : OkT (x ++ y) := by
  intro c hc
  have e : (x ++ y).cps.toList = x.cps.toList ++ y.cps.toList := Array.toList_append
  rw [e, List.mem_append] at hc
  exact hc.elim (a c) (b c)
theorem char_lt (c : Char) : c.toNat < 0x110000 := by
  rcases c.valid with h | h
  · have : c.toNat < 0xD800 := h
    omega
  · exact h.2
theorem OkT.lit (s : String) : OkT (Str.ofString s) := by
  rw [Str.ofString_eq_toList]
  intro c hc
  obtain ⟨d, _, rfl⟩ := List.mem_map.mp (show c ∈ s.toList.map Char.toNat from hc)
  exact char_lt d
theorem ok_char {q c : Nat} (h : c < 0x110000) : ∀ e ∈ Builtin.Str.reprChar q c, e < 0x110000 := by
  have hex : ∀ n : Nat, ∀ e ∈ (let d := (Nat.toDigits 16 c).map Char.toNat; List.replicate (n - d.length) 48 ++ d), e < 0x110000 := by
    intro n e he
    dsimp only at he
    rcases List.mem_append.mp he with z | z
    · rw [(List.mem_replicate.mp z).2]
      decide
    · obtain ⟨d, _, rfl⟩ := List.mem_map.mp z
      exact char_lt d
  have two : ∀ a b : Nat, a < 0x110000 → b < 0x110000 → ∀ e ∈ [a, b], e < 0x110000 := by
    intro a b ha hb e he
    rcases List.mem_cons.mp he with rfl | he
    · exact ha
    · rw [List.mem_singleton.mp he]
      exact hb
  intro e he
  unfold Builtin.Str.reprChar at he
  dsimp only at he
  split at he
  · exact two _ _ (by decide) h e he
  split at he
  · exact two _ _ (by decide) (by decide) e he
  split at he
  · exact two _ _ (by decide) (by decide) e he
  split at he
  · exact two _ _ (by decide) (by decide) e he
  split at he
  · rw [List.mem_singleton.mp he]
    exact h
  split at he
  · rcases List.mem_append.mp he with z | z
    · exact two _ _ (by decide) (by decide) e z
    · exact hex 2 e z
  split at he
  · rcases List.mem_append.mp he with z | z
    · exact two _ _ (by decide) (by decide) e z
    · exact hex 4 e z
  · rcases List.mem_append.mp he with z | z
    · exact two _ _ (by decide) (by decide) e z
    · exact hex 8 e z
theorem ok_repr {x : Str} (h : OkT x) : OkT (reprText x) := by
  have q : reprQuote x < 0x110000 := by
    unfold reprQuote
    split <;> decide
  have fold : ∀ (l : List Nat) (acc : Array Nat), (∀ c ∈ l, c < 0x110000) → (∀ c ∈ acc.toList, c < 0x110000) → ∀ c ∈ (l.foldl (fun out c => out ++ (Builtin.Str.reprChar (reprQuote x) c).toArray) acc).toList, c < 0x110000 := by
    intro l
    induction l with
    | nil => exact fun acc _ ha => ha
    | cons d r ih =>
      intro acc hl ha
      refine ih _ (fun c hc => hl c (List.mem_cons_of_mem _ hc)) fun c hc => ?_
      rw [Array.toList_append, List.mem_append] at hc
      rcases hc with z | z
      · exact ha c z
      · exact ok_char (hl d List.mem_cons_self) c z
  intro c hc
  have e : (reprText x).cps.toList = (x.cps.toList.foldl (fun out c => out ++ (Builtin.Str.reprChar (reprQuote x) c).toArray) #[reprQuote x]).toList ++ [reprQuote x] := by
    unfold reprText
    rw [Array.toList_push, ← Array.foldl_toList]
  rw [e, List.mem_append] at hc
  rcases hc with z | z
  · exact fold _ _ h (fun c hc => by rw [List.mem_singleton.mp (show c ∈ [reprQuote x] from hc)]; exact q) c z
  · rw [List.mem_singleton.mp z]
    exact q
theorem ok_from : ∀ (ts : List Str) (k : Nat) (acc : Str), OkT acc → (∀ t ∈ ts, OkT t) → OkT (textFrom k acc ts)
  | [], _, _, ha, _ => ha
  | t :: r, k, acc, ha, h => by
    unfold textFrom
    exact ok_from r (k + 1) _ ((ha.app (OkT.lit _)).app (h t List.mem_cons_self)) fun u hu => h u (List.mem_cons_of_mem _ hu)
theorem ok_join : ∀ ts : List Str, (∀ t ∈ ts, OkT t) → OkT (Str.join ", " ts)
  | [], _ => fun c hc => absurd hc (by simp [Str.join, Str.empty])
  | [x], h => h x List.mem_cons_self
  | x :: y :: r, h => by
    unfold Str.join
    exact ((h x List.mem_cons_self).app (OkT.lit _)).app (ok_join (y :: r) fun u hu => h u (List.mem_cons_of_mem _ hu))
mutual
theorem ok_shown : ∀ d : PyData, d.canLay0 = true → OkT d.shown
  | .none, _ => OkT.lit _
  | .bool b, _ => by
    unfold PyData.shown
    split <;> exact OkT.lit _
  | .int i, _ => OkT.lit _
  | .str x, h => ok_repr (okT_iff.mp h)
  | .list xs, h => by
    show OkT (textFrom 0 "[" (PyData.shownAll xs) ++ _)
    exact (ok_from _ _ _ (OkT.lit _) (ok_shownAll xs h)).app (OkT.lit _)
  | .tuple xs, h => by
    show OkT (_ ++ Str.join ", " (PyData.shownAll xs) ++ _)
    exact ((OkT.lit _).app (ok_join _ (ok_shownAll xs h))).app (OkT.lit _)
  | .dict _, h => Bool.noConfusion h
theorem ok_shownAll : ∀ xs : List PyData, PyData.canLayAll0 xs = true → ∀ t ∈ PyData.shownAll xs, OkT t
  | [], _, t, ht => absurd ht List.not_mem_nil
  | x :: r, h, t, ht => by
    rw [PyData.canLayAll0, Bool.and_eq_true] at h
    rcases List.mem_cons.mp ht with rfl | ht
    · exact ok_shown x h.1
    · exact ok_shownAll r h.2 t ht
end
theorem ok_text {d : PyData} (h : d.canLay0 = true) : PyData.strOk (textD d) = true := by
  refine okT_iff.mpr ?_
  cases d with
  | str x => exact okT_iff.mp h
  | none => exact OkT.lit _
  | bool b =>
    unfold textD
    dsimp only
    split <;> exact OkT.lit _
  | int i => exact OkT.lit _
  | list xs => exact ok_shown _ h
  | tuple xs => exact ok_shown _ h
  | dict k => exact Bool.noConfusion h
end LK
/-! law: what is handed in, and what becomes of it. -/
namespace T6
open PySem PySem.Spec PyProof.Rows L2 LK
/-- data that all may be asked of -/
structure GoodD (d : PyData) : Prop where
  tm : tame d = true
  lay : d.canLay0 = true
  dp : d.depth ≤ 5
  ne : neat d = true
  wt : d.weight ≤ 60000
/-- n items at most -/
structure Items (n : Nat) (ds : List PyData) : Prop where
  ln : ds.length ≤ n
  tm : tameAll ds = true
  lay : PyData.canLayAll0 ds = true
  dp : PyData.depthAll ds ≤ 2
  ne : neatAll ds = true
  wt : ∀ d ∈ ds, d.weight ≤ 400
theorem wt_all : ∀ {ds : List PyData}, (∀ d ∈ ds, d.weight ≤ 400) → PyData.weightAll ds ≤ ds.length * 401
  | [], _ => Nat.le_refl _
  | d :: r, h => by
    have h1 := h d List.mem_cons_self
    have h2 := wt_all (ds := r) fun e he => h e (List.mem_cons_of_mem _ he)
    simp only [PyData.weightAll, List.length_cons]
    omega
theorem Items.good {n : Nat} {ds : List PyData} (h : Items n ds) (hn : n ≤ 100) : GoodD (.list ds) ∧ GoodD (.tuple ds) := by
  have ln := h.ln
  have w : PyData.weightAll ds ≤ 60000 := Nat.le_trans (wt_all h.wt) (Nat.le_trans (Nat.mul_le_mul_right _ (Nat.le_trans ln hn)) (by decide))
  have t : (decide (ds.length ≤ 1000) && tameAll ds) = true := by rw [h.tm, Bool.and_true]; exact decide_eq_true (by omega)
  have dp := h.dp
  refine ⟨⟨t, h.lay, ?_, h.ne, w⟩, ⟨t, h.lay, ?_, h.ne, w⟩⟩ <;> (simp only [PyData.depth]; omega)
theorem tameAll_app : ∀ {a b : List PyData}, tameAll a = true → tameAll b = true → tameAll (a ++ b) = true
  | [], _, _, h => h
  | x :: r, b, h, k => by
    rw [tameAll, Bool.and_eq_true] at h
    rw [List.cons_append, tameAll, h.1, tameAll_app h.2 k]
    rfl
theorem layAll_app : ∀ {a b : List PyData}, PyData.canLayAll0 a = true → PyData.canLayAll0 b = true → PyData.canLayAll0 (a ++ b) = true
  | [], _, _, h => h
  | x :: r, b, h, k => by
    rw [PyData.canLayAll0, Bool.and_eq_true] at h
    rw [List.cons_append, PyData.canLayAll0, h.1, layAll_app h.2 k]
    rfl
theorem neatAll_app : ∀ {a b : List PyData}, neatAll a = true → neatAll b = true → neatAll (a ++ b) = true
  | [], _, _, h => h
  | x :: r, b, h, k => by
    rw [neatAll, Bool.and_eq_true] at h
    rw [List.cons_append, neatAll, h.1, neatAll_app h.2 k]
    rfl
theorem dpAll_app : ∀ {n : Nat} {a b : List PyData}, PyData.depthAll a ≤ n → PyData.depthAll b ≤ n → PyData.depthAll (a ++ b) ≤ n
  | _, [], _, _, h => h
  | n, x :: r, b, h, k => by
    simp only [PyData.depthAll] at h
    simp only [List.cons_append, PyData.depthAll]
    have := dpAll_app (n := n) (a := r) (b := b) (by omega) k
    omega
theorem tameAll_iff {ds : List PyData} : tameAll ds = true ↔ ∀ d ∈ ds, tame d = true := by
  induction ds with
  | nil => exact ⟨fun _ d hd => absurd hd List.not_mem_nil, fun _ => rfl⟩
  | cons x r ih => rw [tameAll, Bool.and_eq_true, ih]; simp
theorem layAll_iff {ds : List PyData} : PyData.canLayAll0 ds = true ↔ ∀ d ∈ ds, d.canLay0 = true := by
  induction ds with
  | nil => exact ⟨fun _ d hd => absurd hd List.not_mem_nil, fun _ => rfl⟩
  | cons x r ih => rw [PyData.canLayAll0, Bool.and_eq_true, ih]; simp
theorem neatAll_iff {ds : List PyData} : neatAll ds = true ↔ ∀ d ∈ ds, neat d = true := by
  induction ds with
  | nil => exact ⟨fun _ d hd => absurd hd List.not_mem_nil, fun _ => rfl⟩
  | cons x r ih => rw [neatAll, Bool.and_eq_true, ih]; simp
theorem dpAll_iff {n : Nat} {ds : List PyData} : PyData.depthAll ds ≤ n ↔ ∀ d ∈ ds, d.depth ≤ n := by
  induction ds with
  | nil => exact ⟨fun _ d hd => absurd hd List.not_mem_nil, fun _ => Nat.zero_le _⟩
  | cons x r ih =>
    simp only [PyData.depthAll, List.mem_cons, forall_eq_or_imp]
    rw [← ih]
    omega
theorem Items.iff {n : Nat} {ds : List PyData} : Items n ds ↔ ds.length ≤ n ∧ ∀ d ∈ ds, tame d = true ∧ d.canLay0 = true ∧ d.depth ≤ 2 ∧ Nice d := by
  constructor
  · intro h
    exact ⟨h.ln, fun d hd => ⟨tameAll_iff.mp h.tm d hd, layAll_iff.mp h.lay d hd, dpAll_iff.mp h.dp d hd, neatAll_iff.mp h.ne d hd, h.wt d hd⟩⟩
  · rintro ⟨h1, h2⟩
    exact ⟨h1, tameAll_iff.mpr fun d hd => (h2 d hd).1, layAll_iff.mpr fun d hd => (h2 d hd).2.1, dpAll_iff.mpr fun d hd => (h2 d hd).2.2.1, neatAll_iff.mpr fun d hd => (h2 d hd).2.2.2.1, fun d hd => (h2 d hd).2.2.2.2⟩
/-- some of the items, one more in between -/
theorem Items.bend {n k j : Nat} {ds : List PyData} {d : PyData} (h : Items n ds) (kj : k ≤ j) (t : tame d = true) (l : d.canLay0 = true) (p : d.depth ≤ 2) (c : Nice d) : Items (n + 1) (ds.take k ++ [d] ++ ds.drop j) := by
  obtain ⟨h1, h2⟩ := Items.iff.mp h
  refine Items.iff.mpr ⟨?_, fun e he => ?_⟩
  · simp only [List.length_append, List.length_take, List.length_drop, List.length_cons, List.length_nil]
    omega
  · rw [List.mem_append, List.mem_append] at he
    rcases he with (he | he) | he
    · exact h2 e (List.mem_of_mem_take he)
    · rw [List.mem_singleton.mp he]
      exact ⟨t, l, p, c⟩
    · exact h2 e (List.mem_of_mem_drop he)
theorem due_none {d e : PyData} (h : dueD d e = none) : loopsFault d = none := by
  unfold dueD at h
  split at h
  · cases h
  · assumption
/-- a right list of loops -/
theorem valid_lps {ds : List PyData} (h : loopsFault (.list ds) = none) : ∃ ls : List Lp, ds = ls.map lpD := by
  have bad : ∀ k < ds.length, loopBad ds k = false := by
    unfold loopsFault at h
    have h' : (List.range ds.length).find? (loopBad ds) = none := by
      cases q : (List.range ds.length).find? (loopBad ds) with
      | none => rfl
      | some k =>
        dsimp only at h
        rw [q] at h
        cases h
    intro k hk
    simpa using List.find?_eq_none.mp h' k (List.mem_range.mpr hk)
  have each : ∀ d ∈ ds, ∃ l : Lp, d = lpD l := by
    intro d hd
    obtain ⟨k, hk, rfl⟩ := List.getElem_of_mem hd
    have q := bad k hk
    unfold loopBad at q
    rw [List.getElem?_eq_getElem hk] at q
    have q2 : isLoopD k ds[k] = true := by simpa using q
    generalize ds[k] = d at q2
    unfold isLoopD at q2
    split at q2
    · rename_i a b
      rw [Bool.and_eq_true] at q2
      obtain ⟨q3, q4⟩ := q2
      cases a with
      | str z =>
        cases b with
        | tuple es =>
          unfold isParD at q4
          rw [Bool.and_eq_true] at q4
          have nums : ∀ es : List PyData, es.all (isNumD k) = true → ∃ ns : List Int, es = ns.map PyData.int := by
            intro es
            induction es with
            | nil => exact fun _ => ⟨[], rfl⟩
            | cons e r ih =>
              intro h
              rw [List.all_cons, Bool.and_eq_true] at h
              obtain ⟨ns, rfl⟩ := ih h.2
              cases e with
              | int i => exact ⟨i :: ns, rfl⟩
              | _ => exact Bool.noConfusion h.1
          obtain ⟨ns, rfl⟩ := nums es q4.1
          exact ⟨(z, ns), rfl⟩
        | _ => exact Bool.noConfusion q4
      | _ => exact Bool.noConfusion q3
    · cases q2
  clear h bad
  induction ds with
  | nil => exact ⟨[], rfl⟩
  | cons d r ih =>
    obtain ⟨l, rfl⟩ := each d List.mem_cons_self
    obtain ⟨ls, rfl⟩ := ih fun e he => each e (List.mem_cons_of_mem _ he)
    exact ⟨l :: ls, rfl⟩
theorem lps_short {ls : List Lp} (h : tameAll (ls.map lpD) = true) : ∀ l ∈ ls, l.2.length ≤ 1000 := fun l hl => by
  have q := tameAll_iff.mp h (lpD l) (List.mem_map.mpr ⟨l, hl, rfl⟩)
  unfold lpD tame at q
  rw [Bool.and_eq_true] at q
  have q2 := tameAll_iff.mp q.2 (.tuple (l.2.map PyData.int)) (by simp)
  unfold tame at q2
  rw [Bool.and_eq_true, List.length_map] at q2
  exact of_decide_eq_true q2.1
/-- no more than fit -/
theorem okfs_len {n : Nat} {fs : List Int} (h : OkFs n fs) : fs.length ≤ n := by
  have nd : (fs.map Int.toNat).Nodup := by
    refine List.Pairwise.map _ ?_ (List.Pairwise.and_mem.mp h.1)
    rintro a b ⟨ha, hb, ne⟩ e
    have := h.2 a ha
    have := h.2 b hb
    exact ne (by omega)
  have sub : (fs.map Int.toNat) ⊆ List.range n := fun x hx => by
    obtain ⟨a, ha, rfl⟩ := List.mem_map.mp hx
    have := h.2 a ha
    exact List.mem_range.mpr (by omega)
  have := sub_len _ _ nd sub
  rwa [List.length_map, List.length_range] at this
theorem okfs_items {n : Nat} {fs : List Int} (h : OkFs n fs) (hn : n ≤ 1000) : Items n (fs.map PyData.int) := by
  refine Items.iff.mpr ⟨by rw [List.length_map]; exact okfs_len h, fun d hd => ?_⟩
  obtain ⟨i, hi, rfl⟩ := List.mem_map.mp hd
  have := h.2 i hi
  exact ⟨rfl, rfl, Nat.zero_le _, nice_int (Nat.lt_of_le_of_lt (show i.natAbs ≤ 1000 by omega) (by decide))⟩
theorem lps_items {ys : List Str} {ls : List Lp} {n : Nat} (h : OkLs ys ls) (hy : ∀ y ∈ ys, Yn y) (hn : ls.length ≤ n) (n1 : n ≤ 1000) : Items n (ls.map lpD) := by
  refine Items.iff.mpr ⟨by rw [List.length_map]; exact hn, fun d hd => ?_⟩
  obtain ⟨l, hl, rfl⟩ := List.mem_map.mp hd
  obtain ⟨k, hk, rfl⟩ := List.getElem_of_mem hl
  obtain ⟨h1, h2, h3, h4⟩ := h k _ (List.getElem?_eq_getElem hk)
  obtain ⟨y1, y2, y3⟩ := hy _ h1
  have small : ∀ p ∈ (ls[k]).2, p.natAbs ≤ 1000 := fun p hp => by
    have := h4 p hp
    omega
  have nums : ∀ ns : List Int, (∀ p ∈ ns, p.natAbs ≤ 1000) → tameAll (ns.map PyData.int) = true ∧ neatAll (ns.map PyData.int) = true ∧ PyData.weightAll (ns.map PyData.int) ≤ ns.length * 20 := by
    intro ns
    induction ns with
    | nil => exact fun _ => ⟨rfl, rfl, Nat.le_refl _⟩
    | cons p r ih =>
      intro h
      obtain ⟨a, b, c⟩ := ih fun q hq => h q (List.mem_cons_of_mem _ hq)
      have hp := h p List.mem_cons_self
      have wp : (PyData.int p).weight ≤ 11 := by
        unfold PyData.weight
        split
        · exact Nat.zero_le _
        · rename_i nz
          have : p.natAbs.log2 < 10 := (Nat.log2_lt (by simpa using nz)).mpr (by omega)
          omega
      refine ⟨by rw [List.map_cons, tameAll, a]; rfl, ?_, ?_⟩
      · rw [List.map_cons, neatAll, b, Bool.and_true]
        exact decide_eq_true (Nat.lt_of_le_of_lt hp (by decide))
      · simp only [List.map_cons, PyData.weightAll, List.length_cons]
        omega
  obtain ⟨a, b, c⟩ := nums _ small
  obtain ⟨d1, d2⟩ := lay_ints (ls[k]).2
  have sz : (ls[k]).1.cps.size ≤ 8 := y2
  refine ⟨?_, ?_, ?_, ?_, ?_⟩
  · simp only [lpD, tame, tameAll, a, List.length_cons, List.length_nil, List.length_map, Bool.and_true, Bool.and_eq_true, decide_eq_true_eq]
    exact ⟨by omega, by omega⟩
  · simp only [lpD, PyData.canLay0, PyData.canLayAll0, d1, Bool.and_true]
    refine okT_iff.mpr fun c hc => ?_
    have := y3 c hc
    omega
  · simp only [lpD, PyData.depth, PyData.depthAll, d2]
    omega
  · simp only [lpD, neat, neatAll, b, Bool.and_true]
    exact decide_eq_true (by omega)
  · simp only [lpD, PyData.weight, PyData.weightAll]
    omega
end T6
/-! What is drawn is a right cloth. -/
namespace T6
open PySem PySem.Spec PyProof.Rows L2 LK MXo MXi MXp MXq
theorem ints_len {n : Nat} {xs : List Int} (nd : xs.Nodup) (h : ∀ x ∈ xs, 0 ≤ x ∧ x < (n : Int)) : xs.length ≤ n := by
  have := sub_len xs ((List.range n).map fun i : Nat => (i : Int)) nd fun x hx => by
    have := h x hx
    exact List.mem_map.mpr ⟨x.toNat, List.mem_range.mpr (by omega), by omega⟩
  rwa [List.length_map, List.length_range] at this
def srt (xs : List Int) : List Int := xs.mergeSort (fun a b => decide (a ≤ b))
theorem srt_perm (xs : List Int) : (srt xs).Perm xs := List.mergeSort_perm xs _
theorem srt_pw (xs : List Int) : (srt xs).Pairwise (· ≤ ·) := by
  have h := List.pairwise_mergeSort (le := fun a b : Int => decide (a ≤ b)) (fun a b c h1 h2 => by simp at *; omega) (fun a b => by simp; omega) xs
  exact h.imp fun h => by simpa using h
theorem srt_of {ms xs : List Int} (p : ms.Perm xs) (w : ms.Pairwise (· ≤ ·)) : ms = srt xs :=
  List.Perm.eq_of_pairwise (le := (· ≤ ·)) (fun a b _ _ h1 h2 => Int.le_antisymm h1 h2) w (srt_pw xs) (p.trans (srt_perm xs).symm)
theorem srt_lt {xs : List Int} (nd : xs.Nodup) : (srt xs).Pairwise (· < ·) := by
  have h := List.pairwise_and_iff.mpr ⟨srt_pw xs, (srt_perm xs).nodup_iff.mpr nd⟩
  exact h.imp fun ⟨a, b⟩ => by omega
theorem lot_ok {n : Nat} {ns : List Int} (h : OkFs n ns) : lotFault (n : Int) (.list (ns.map PyData.int)) = none := by
  show ((List.range (ns.map PyData.int).length).find? (lotBad (n : Int) (ns.map PyData.int))).map (fun k : Nat => (k : Int)) = none
  rw [find_all fun k hk => ?_]
  · rfl
  rw [List.length_map] at hk
  have e : (ns.map PyData.int)[k]? = some (.int ns[k]) := by rw [List.getElem?_map, List.getElem?_eq_getElem hk]; rfl
  have r := h.2 _ (List.getElem_mem hk)
  rw [lotBad_int e (by rw [isNumD]; exact decide_eq_true r), ← List.map_take, hasInt_ints]
  refine decide_eq_false fun m => ?_
  obtain ⟨j, hj, ej⟩ := List.getElem_of_mem m
  rw [List.getElem_take] at ej
  rw [List.length_take] at hj
  exact absurd ej (List.pairwise_iff_getElem.mp h.1 j k (by omega) hk (by omega))
theorem tame_ints : ∀ ns : List Int, tameAll (ns.map PyData.int) = true
  | [] => rfl
  | n :: r => tame_ints r
theorem OkFs.len {n : Nat} {ns : List Int} (h : OkFs n ns) : ns.length ≤ n := ints_len h.1 h.2
/-- the cloth's properties, and len -/
structure Pr2 (P : Program) (w : World) (K : PySem.W.Frag) (mg : Str → Option Value) (base : Heap) (CC : Addr) where
  (pL pF gL gF gN : Addr)
  (fL fF fN : FuncData)
  aL : PropOf K CC "loops" pL gL
  aF : PropOf K CC "fast" pF gF
  aN : LenOf K CC gN
  bL : Binds K fL ["self"] []
  bF : Binds K fF ["self"] []
  bN : Binds K fN ["self"] []
  oL : FnOk P w K mg base CX0 1 gL fL ["self"] (spCopy K CC "_loops")
  oF : FnOk P w K mg base CX0 1 gF fF ["self"] (spCopy K CC "_fast")
  oN : FnOk P w K mg base CX0 1 gN fN ["self"] (spSize K CC)
  cc : Cls K CC
  n1 : NoAttr K CC "_loops"
  n2 : NoAttr K CC "_fast"
theorem rise_ints {ns : List Int} (h : ns.Pairwise (· < ·)) : rise (ns.map PyData.int) = true := by
  unfold rise
  rw [List.all_eq_true]
  intro i hi
  rw [List.length_map] at hi
  have hi' := List.mem_range.mp hi
  have a : (ns.map PyData.int)[i]? = some (.int ns[i]) := by rw [List.getElem?_map, List.getElem?_eq_getElem (by omega)]; rfl
  have b : (ns.map PyData.int)[i + 1]? = some (.int ns[i + 1]) := by rw [List.getElem?_map, List.getElem?_eq_getElem (by omega)]; rfl
  have lt := List.pairwise_iff_getElem.mp h i (i + 1) (by omega) (by omega) (by omega)
  unfold ltAt
  rw [a, b]
  exact decide_eq_true lt
theorem loop_ok {ys : List Str} {ls : List Lp} (h : OkLs ys ls) (hy : ∀ y ∈ ys, Yn y) {k : Nat} {l : Lp} (e : ls[k]? = some l) : isLoopD (k : Int) (lpD l) = true := by
  obtain ⟨h1, h2, h3, h4⟩ := h k l e
  obtain ⟨y1, y2, y3⟩ := hy _ h1
  show (isThrD (.str l.1) && isParD (k : Int) (.tuple (l.2.map PyData.int))) = true
  rw [Bool.and_eq_true]
  refine ⟨?_, ?_⟩
  · show (decide (1 ≤ l.1.length ∧ l.1.length ≤ 8) && l.1.cps.toList.all fun c => decide (97 ≤ c ∧ c ≤ 122)) = true
    rw [decide_eq_true ⟨y1, y2⟩, Bool.true_and, List.all_eq_true]
    exact fun c hc => decide_eq_true (y3 c hc)
  · show ((l.2.map PyData.int).all (isNumD (k : Int)) && rise (l.2.map PyData.int)) = true
    rw [rise_ints h2, Bool.and_true, List.all_map, List.all_eq_true]
    exact fun p hp => decide_eq_true (h4 p hp)
theorem due_ok {ys : List Str} {ls : List Lp} {fs : List Int} (h : OkLs ys ls) (hy : ∀ y ∈ ys, Yn y) (hf : OkFs ls.length fs) : dueD (.list (ls.map lpD)) (.list (fs.map PyData.int)) = none := by
  have e : loopsFault (.list (ls.map lpD)) = none := by
    show ((List.range (ls.map lpD).length).find? (loopBad (ls.map lpD))).map (fun k : Nat => (k : Int)) = none
    rw [find_all fun k hk => ?_]
    · rfl
    rw [List.length_map] at hk
    have ek : (ls.map lpD)[k]? = some (lpD ls[k]) := by rw [List.getElem?_map, List.getElem?_eq_getElem hk]; rfl
    rw [loopBad_at ek, loop_ok h hy (List.getElem?_eq_getElem hk)]
    rfl
  unfold dueD
  rw [e]
  show (lotFault ((ls.map lpD).length : Int) (.list (fs.map PyData.int))).map (fun i => (("fast" : Str), i)) = none
  rw [List.length_map, lot_ok hf]
  rfl
end T6
/-! xs[::n], n a written number above 0. -/
namespace MXu
open PySem PySem.Spec PyProof.Rows L2
/-- every n-th -/
def everyN {α : Type} (n : Int) (xs : List α) : List α := (sliceRange 0 xs.length n).filterMap fun k => xs[k]?
theorem vals_at : ∀ {xs : List V} {us : List Value} (r : Vals xs us) (k : Nat), (xs[k]? = none ∧ us[k]? = none) ∨ ∃ x u, xs[k]? = some x ∧ us[k]? = some u ∧ RelV x u
  | _, _, .nil, k => .inl ⟨by simp, by simp⟩
  | _, _, .cons r t, 0 => .inr ⟨_, _, rfl, rfl, r⟩
  | _, _, .cons r t, k + 1 => by
    simpa using vals_at t k
theorem vals_pick {xs : List V} {us : List Value} (r : Vals xs us) : ∀ R : List Nat, Vals (R.filterMap fun k => xs[k]?) (R.filterMap fun k => us[k]?)
  | [] => .nil
  | k :: R => by
    rcases vals_at r k with ⟨h1, h2⟩ | ⟨x, u, h1, h2, h⟩
    · rw [List.filterMap_cons, List.filterMap_cons, h1, h2]
      exact vals_pick r R
    · rw [List.filterMap_cons, List.filterMap_cons, h1, h2]
      exact .cons h (vals_pick r R)
theorem pick_n {n : Nat} (pos : 0 < n) (us : List Value) : slicePick us.toArray none none (some (n : Int)) = ((sliceRange 0 us.length n).filterMap fun k => us[k]?).toArray := by
  have e : sliceBounds none none (some (n : Int)) us.toArray.size = (0, (us.length : Int), (n : Int)) := by
    unfold sliceBounds
    simp only [Option.getD_some, List.size_toArray]
    rw [if_pos (by omega), if_pos (by omega)]
  unfold slicePick
  rw [e]
  simp
section
variable {X : Cx}
def tEach (K : PySem.W.Frag) (n : Nat) (te : TE) : TE := fun σ H Q => te σ H fun x H1 => ∃ a xs, x = .ref a ∧ SqL K H1 a xs ∧ (everyN (n : Int) xs).length ≤ sizeLine ∧ ∀ p, H1 p = none → Q (.ref p) (upd H1 p (.lst (everyN (n : Int) xs)))
theorem pe_each {e : Expr} {te : TE} {k n : Nat} {p1 p3 pos : Pos} (pos_ : 0 < n) (he : PE X e te) : PE X (.Subscript e (.Slice none none (some (.Constant (.int n) k p1)) p3) pos) (tEach X.K n te) := by
  refine ⟨fun pins s σ H Q I h => ?_⟩
  refine Subscript_ (thn (he.run pins s σ H _ I h) fun v s1 ⟨x, H1, I1, r1, q1⟩ => ?_)
  obtain ⟨a, xs, ex, hx, room, q⟩ := q1
  subst ex
  cases r1
  have hst : PO X (some (.Constant (.int n) k p1)) (tPart (tC (.int n))) := po_some pe_int
  refine wpAny_Slice (thn (po_none.run pins s1 σ H1 (fun o H2 => o = none ∧ H2 = H1) I1 ⟨rfl, rfl⟩) fun vl s2 ⟨l, H2, I2, pl, el, e2⟩ => ?_)
  subst el e2
  refine thn (po_none.run pins s2 σ H2 (fun o H3 => o = none ∧ H3 = H2) I2 ⟨rfl, rfl⟩) fun vu s3 ⟨u, H3, I3, pu, eu, e3⟩ => ?_
  subst eu e3
  refine thn (hst.run pins s3 σ H3 (fun o H4 => o = some (n : Int) ∧ H4 = H3) I3 ⟨n, rfl, rfl, rfl⟩) fun vs s4 ⟨o, H4, I4, ps, eo, e4⟩ => ?_
  subst eo e4
  have I5 : Inv X pins σ H4 { s4 with heap := s4.heap.push { cls := .type "slice", data := .fields #[vl, vu, vs] } } := I4.kept (t' := s4.toks) fun b ob q => Heap.get?_push_of_some _ q
  obtain ⟨its, r, ht, hz⟩ := I5.list hx
  have hlen := r.length
  show wpAny (model X.prog X.w) X.A (subscriptTail e (.Slice none none (some (.Constant (.int n) k p1)) p3) (.ref a) (.ref s4.heap.objs.size)) (EP X pins σ Q) X.xe { s4 with heap := s4.heap.push { cls := .type "slice", data := .fields #[vl, vu, vs] } }
  refine tail_any (ops := [.ref a, .ref s4.heap.objs.size]) ht.isList.typeIs (PySem.slot_list_getitem.lookup) ?_ (by with_unfolding_all rfl)
  refine wpAny_getItem_list_slice ht.isList (Heap.IsSliceOf.new _ vl vu vs) pl pu ps (by intro z; have := Option.some.inj z; omega) ?_ (by rw [List.size_toArray]; omega)
  rw [pick_n pos_, ← hlen]
  refine ⟨.ref _, _, I5.laid (t' := s4.toks) (o := .lst (everyN (n : Int) xs)) (fun b ob q => Heap.get?_push_of_some _ q) (Nat.le_refl _) ?_, rfl, q _ (I5.hok.fresh (Nat.le_refl _))⟩
  exact ⟨room, _, 0, vals_pick r _, Heap.get?_push_size _ rfl⟩
end
end MXu
/-! A comprehension over enumerate of a list that stands still. -/
namespace MXv
open PySem PySem.Spec PyProof.Rows L2
theorem lc_enum {K : PySem.W.Frag} {a : Addr} {xs : List V} {g : TG} {tt : TT} {te : TE} {vs : List Nat} {σ : L2.St} {H1 : Hp} {D : Addr} {Qd : Hp → Prop} (Pv : Nat → Hp → Prop) (h0 : Pv 0 (upd H1 D (.lst []))) (hq : ∀ i H, Pv i H → SqL K H a xs)
    (hs : ∀ (i : Nat) (x : V) (T : Addr) (H : Hp), xs[i]? = some x → Pv i H → H T = none → g (.ref T) (wipe σ vs) (upd H T (.tup [.int (i : Nat), x])) fun σ2 H2 => wipe σ2 vs = wipe σ vs ∧ tt σ2 H2 fun b H3 =>
      if b = true then te σ2 H3 fun y H4 => ∃ acc, H4 D = some (.lst acc) ∧ acc.length < sizeLine ∧ Pv (i + 1) (upd H4 D (.lst (acc ++ [y]))) else Pv (i + 1) H3) (hd : ∀ H, Pv xs.length H → Qd H) :
    ∃ W : Nat → Nat → Hp → Prop, (∃ m, W 0 m (upd H1 D (.lst []))) ∧ ∀ i m H, W i m H →
      ((Ite K a).stop i H ∧ Qd H) ∨ ((Ite K a).go i H ∧ ∃ Nx : Hp → Prop, (∀ H', Nx H' → ∃ m', m' < m ∧ W (i + 1) m' H') ∧ ∀ v H', (Ite K a).yld i H v H' → g v (wipe σ vs) H' fun σ2 H2 => wipe σ2 vs = wipe σ vs ∧ tt σ2 H2 fun b H3 =>
        if b = true then te σ2 H3 fun y H4 => ∃ acc, H4 D = some (.lst acc) ∧ acc.length < sizeLine ∧ Nx (upd H4 D (.lst (acc ++ [y]))) else Nx H3) := by
  refine ⟨fun i m H => m = xs.length - i ∧ i ≤ xs.length ∧ Pv i H, ⟨xs.length, rfl, Nat.zero_le _, h0⟩, ?_⟩
  rintro i m H ⟨rfl, hi, p⟩
  have qx := hq i H p
  by_cases hlt : i < xs.length
  · have hx : xs[i]? = some xs[i] := List.getElem?_eq_getElem hlt
    refine .inr ⟨⟨xs, _, qx, hx⟩, Pv (i + 1), fun H' p' => ⟨xs.length - (i + 1), by omega, rfl, hlt, p'⟩, fun v H' y => ?_⟩
    obtain ⟨T, x', rfl, hT, rfl, f1⟩ := y
    exact hs i x' T H (f1 xs qx) p hT
  · have e : i = xs.length := by omega
    subst e
    exact .inl ⟨⟨xs, qx, Nat.le_refl _⟩, hd H p⟩
end MXv
/-! Comprehensions that filter and map, by two continuations. -/
namespace MY
open PySem PySem.Spec PyProof.Rows L2 LK
theorem ne_none {H : Hp} {a p : Addr} {o : HO} (e : H a = some o) (n : H p = none) : a ≠ p := fun q => by
  subst q
  rw [e] at n
  cases n
theorem same_newU {H H' : Hp} {p : Addr} {o : HO} (s : Same H H') (n : H p = none) : Same H (upd H' p o) := fun b u e => by
  rw [upd_ne (ne_none e n)]
  exact s b u e
/-- what stays when the creel alone is written -/
theorem bt_newU {H H' : Hp} {p c : Addr} {o : HO} (s : Bt c H H') (n : H p = none) : Bt c H (upd H' p o) := fun b u ne e => by
  rw [upd_ne (ne_none e n)]
  exact s b u ne e
section
variable {α : Type}
theorem filt_some {ns : List α} {f : α → Bool} {i : Nat} {x : α} (h : ns[i]? = some x) : (ns.take (i + 1)).filter f = if f x = true then (ns.take i).filter f ++ [x] else (ns.take i).filter f := by
  rw [List.take_add_one, h, Option.toList_some, List.filter_append, List.filter_cons, List.filter_nil]
  split <;> simp
theorem filt_le (ns : List α) (f : α → Bool) (i : Nat) : ((ns.take i).filter f).length ≤ ns.length := Nat.le_trans (List.length_filter_le _ _) (List.length_take_le' _ _)
/-- the step of all of them -/
theorem step_ok {ns : List α} {f : α → Bool} {e : α → V} {H : Hp} {D : Addr} {i : Nat} {x : α} (nD : H D = none) (ln : ns.length ≤ 1000000) (hx : ns[i]? = some x) {g : TG} {tt : TT} {te : TE} {σ σ' : L2.St} {v : V} {vs : List Nat} {H1 : Hp}
    (hp : Same H H1 ∧ H1 D = some (.lst (((ns.take i).filter f).map e)))
    (hs : ∀ (yes : V → Hp → Prop) (no : Hp → Prop), (f x = true → ∀ H2, Same H1 H2 → yes (e x) H2) → (f x = false → ∀ H2, Same H1 H2 → no H2) → g v σ' H1 fun σ2 H2 => wipe σ2 vs = wipe σ vs ∧ tt σ2 H2 fun b H3 => if b = true then te σ2 H3 yes else no H3) :
    g v σ' H1 fun σ2 H2 => wipe σ2 vs = wipe σ vs ∧ tt σ2 H2 fun b H3 => if b = true then te σ2 H3 fun y H4 => ∃ acc, H4 D = some (.lst acc) ∧ acc.length < sizeLine ∧ (Same H (upd H4 D (.lst (acc ++ [y]))) ∧ upd H4 D (.lst (acc ++ [y])) D = some (.lst (((ns.take (i + 1)).filter f).map e))) else Same H H3 ∧ H3 D = some (.lst (((ns.take (i + 1)).filter f).map e)) := by
  refine hs _ _ (fun hf H2 s2 => ⟨_, s2 _ _ hp.2, ?_, same_newU (hp.1.trans s2) nD, ?_⟩) (fun hf H2 s2 => ⟨hp.1.trans s2, ?_⟩)
  · rw [List.length_map]
    have := filt_le ns f i
    have : sizeLine = 16777216 := sizeLine_eq
    omega
  · rw [upd_same, filt_some hx, if_pos hf, List.map_append]
    rfl
  · rw [s2 _ _ hp.2, filt_some hx, if_neg (by rw [hf]; decide)]
/-- over a list that stands still -/
theorem lcf_list {K : PySem.W.Frag} {a : Addr} {ns : List α} {c : α → V} {g : TG} {tt : TT} {te : TE} {vs : List Nat} {σ : L2.St} {H : Hp} {D : Addr} {Qd : Hp → Prop} (f : α → Bool) (e : α → V) (ha : SqL K H a (ns.map c)) (nD : H D = none) (ln : ns.length ≤ 1000000)
    (hs : ∀ (i : Nat) (x : α) (H1 : Hp) (yes : V → Hp → Prop) (no : Hp → Prop), ns[i]? = some x → Same H H1 → (f x = true → ∀ H2, Same H1 H2 → yes (e x) H2) → (f x = false → ∀ H2, Same H1 H2 → no H2) → g (c x) (wipe σ vs) H1 fun σ2 H2 => wipe σ2 vs = wipe σ vs ∧ tt σ2 H2 fun b H3 => if b = true then te σ2 H3 yes else no H3)
    (hd : ∀ H', Same H H' → H' D = some (.lst ((ns.filter f).map e)) → Qd H') :
    ∃ W : Nat → Nat → Hp → Prop, (∃ m, W 0 m (upd H D (.lst []))) ∧ ∀ i m H, W i m H →
      ((Itl K a).stop i H ∧ Qd H) ∨ ((Itl K a).go i H ∧ ∃ Nx : Hp → Prop, (∀ H', Nx H' → ∃ m', m' < m ∧ W (i + 1) m' H') ∧ ∀ x H', (Itl K a).yld i H x H' → g x (wipe σ vs) H' fun σ2 H2 => wipe σ2 vs = wipe σ vs ∧ tt σ2 H2 fun b H3 =>
        if b = true then te σ2 H3 fun y H4 => ∃ acc, H4 D = some (.lst acc) ∧ acc.length < sizeLine ∧ Nx (upd H4 D (.lst (acc ++ [y]))) else Nx H3) := by
  refine lc_list (K := K) (a := a) (xs := ns.map c) (fun i H' => Same H H' ∧ H' D = some (.lst (((ns.take i).filter f).map e))) ⟨same_new nD, upd_same⟩ (fun i H' _ hp => hp.1.seq ha) (fun i y H' hy hp => ?_) (fun H' hp => ?_)
  · rw [List.getElem?_map] at hy
    obtain ⟨x, hx, rfl⟩ := Option.map_eq_some_iff.mp hy
    exact step_ok nD ln hx hp fun yes no y n => hs i x H' yes no hx hp.1 y n
  · have h2 := hp.2
    rw [List.length_map, List.take_length] at h2
    exact hd H' hp.1 h2
/-- over a tuple -/
theorem lcf_tup {K : PySem.W.Frag} {a : Addr} {ns : List α} {c : α → V} {g : TG} {tt : TT} {te : TE} {vs : List Nat} {σ : L2.St} {H : Hp} {D : Addr} {Qd : Hp → Prop} (f : α → Bool) (e : α → V) (ha : SqT K H a (ns.map c)) (nD : H D = none) (ln : ns.length ≤ 1000000)
    (hs : ∀ (i : Nat) (x : α) (H1 : Hp) (yes : V → Hp → Prop) (no : Hp → Prop), ns[i]? = some x → Same H H1 → (f x = true → ∀ H2, Same H1 H2 → yes (e x) H2) → (f x = false → ∀ H2, Same H1 H2 → no H2) → g (c x) (wipe σ vs) H1 fun σ2 H2 => wipe σ2 vs = wipe σ vs ∧ tt σ2 H2 fun b H3 => if b = true then te σ2 H3 yes else no H3)
    (hd : ∀ H', Same H H' → H' D = some (.lst ((ns.filter f).map e)) → Qd H') :
    ∃ W : Nat → Nat → Hp → Prop, (∃ m, W 0 m (upd H D (.lst []))) ∧ ∀ i m H, W i m H →
      ((Itt K a).stop i H ∧ Qd H) ∨ ((Itt K a).go i H ∧ ∃ Nx : Hp → Prop, (∀ H', Nx H' → ∃ m', m' < m ∧ W (i + 1) m' H') ∧ ∀ x H', (Itt K a).yld i H x H' → g x (wipe σ vs) H' fun σ2 H2 => wipe σ2 vs = wipe σ vs ∧ tt σ2 H2 fun b H3 =>
        if b = true then te σ2 H3 fun y H4 => ∃ acc, H4 D = some (.lst acc) ∧ acc.length < sizeLine ∧ Nx (upd H4 D (.lst (acc ++ [y]))) else Nx H3) := by
  refine lc_tup (K := K) (a := a) (xs := ns.map c) (fun i H' => Same H H' ∧ H' D = some (.lst (((ns.take i).filter f).map e))) ⟨same_new nD, upd_same⟩ (fun i H' _ hp => same_tup hp.1 ha) (fun i y H' hy hp => ?_) (fun H' hp => ?_)
  · rw [List.getElem?_map] at hy
    obtain ⟨x, hx, rfl⟩ := Option.map_eq_some_iff.mp hy
    exact step_ok nD ln hx hp fun yes no y n => hs i x H' yes no hx hp.1 y n
  · have h2 := hp.2
    rw [List.length_map, List.take_length] at h2
    exact hd H' hp.1 h2
end
/-- over range(n) -/
theorem lcf_range {n : Nat} {g : TG} {tt : TT} {te : TE} {vs : List Nat} {σ : L2.St} {H : Hp} {D : Addr} {Qd : Hp → Prop} (f : Nat → Bool) (e : Nat → V) (nD : H D = none) (ln : n ≤ 1000000)
    (hs : ∀ (i : Nat) (H1 : Hp) (yes : V → Hp → Prop) (no : Hp → Prop), i < n → Same H H1 → (f i = true → ∀ H2, Same H1 H2 → yes (e i) H2) → (f i = false → ∀ H2, Same H1 H2 → no H2) → g (.int (i : Int)) (wipe σ vs) H1 fun σ2 H2 => wipe σ2 vs = wipe σ vs ∧ tt σ2 H2 fun b H3 => if b = true then te σ2 H3 yes else no H3)
    (hd : ∀ H', Same H H' → H' D = some (.lst (((List.range n).filter f).map e)) → Qd H') :
    ∃ W : Nat → Nat → Hp → Prop, (∃ m, W 0 m (upd H D (.lst []))) ∧ ∀ i m H, W i m H →
      ((Itr 0 n).stop i H ∧ Qd H) ∨ ((Itr 0 n).go i H ∧ ∃ Nx : Hp → Prop, (∀ H', Nx H' → ∃ m', m' < m ∧ W (i + 1) m' H') ∧ ∀ x H', (Itr 0 n).yld i H x H' → g x (wipe σ vs) H' fun σ2 H2 => wipe σ2 vs = wipe σ vs ∧ tt σ2 H2 fun b H3 =>
        if b = true then te σ2 H3 fun y H4 => ∃ acc, H4 D = some (.lst acc) ∧ acc.length < sizeLine ∧ Nx (upd H4 D (.lst (acc ++ [y]))) else Nx H3) := by
  have tk : ∀ i, i ≤ n → (List.range n).take i = List.range i := fun i h => by rw [List.take_range, Nat.min_eq_left h]
  refine lc_range (lo := 0) (n := n) (fun i H' => Same H H' ∧ H' D = some (.lst ((((List.range n).take i).filter f).map e))) ⟨same_new nD, upd_same⟩ (fun i H' hi hp => ?_) (fun H' hp => ?_)
  · rw [Int.zero_add]
    exact step_ok (ns := List.range n) nD (by rw [List.length_range]; exact ln) (List.getElem?_range hi) hp fun yes no y n => hs i H' yes no hi hp.1 y n
  · have h2 := hp.2
    rw [tk n (Nat.le_refl _)] at h2
    exact hd H' hp.1 h2
end MY
/-! Calls in a block, the row said by a letter. -/
namespace MYd
open PySem PySem.Spec PyProof.Rows L2 LK
def rListOf (K : PySem.W.Frag) : List V → Hp → VK → Prop := fun xs H Q => ∃ p ys, xs = [V.ref p] ∧ (SqL K H p ys ∨ SqT K H p ys) ∧ ∀ l, H l = none → Q (.ref l) (upd H l (.lst ys))
theorem listK {X : Cx} {K : PySem.W.Frag} (e : X.K = K := by rfl) : CallR X (.type "list") (rListOf K) := by
  subst e
  exact call_list_of
theorem pe_revK {X : Cx} {K : PySem.W.Frag} {e : Expr} {te : TE} {k : Nat} {p1 p2 p3 pos : Pos} (he : PE X e te) (e0 : X.K = K := by rfl) : PE X (.Subscript e (.Slice none none (some (.UnaryOp .USub (.Constant (.int 1) k p1) p2)) p3) pos) (tRevL K te) := by
  subst e0
  exact pe_revL he
theorem sl_listK {X : Cx} {K : PySem.W.Frag} (e0 : X.K = K := by rfl) : SlR X (rSlL K) := by
  subst e0
  exact sl_list
theorem hu65 {A : Around} {k : Nat} (hr : Room k A) : A.units + 65 < cLine := by
  have := hr.un
  omega
end MYd
/-! x not in range(..). -/
namespace MXt
open PySem PySem.Spec PyProof.Rows L2
section
variable {X : Cx} {a b : Expr} {ta : TE} {tr : L2.St → Hp → (Int → Int → Hp → Prop) → Prop} {pos : Pos}
def tNinRg (ta : TE) (tr : L2.St → Hp → (Int → Int → Hp → Prop) → Prop) : TE := fun σ H Q => ta σ H fun x H1 => ∃ k, x = V.int k ∧ tr σ H1 fun lo hi H2 => Q (.bl (!decide (lo ≤ k ∧ k < hi))) H2
theorem pe_ninRg (ha : PE X a ta) (hb : PRg X b tr) (hm : behindInMarks .NotIn b = false := by rfl) : PE X (.Compare a [.NotIn] [b] pos) (tNinRg ta tr) := by
  refine ⟨fun pins s σ H Q I h => ?_⟩
  refine wpAny_Compare1 (thn (ha.run pins s σ H _ I h) fun v s1 ⟨x, H1, I1, r1, q1⟩ => ?_) hm
  obtain ⟨k, rfl, q1⟩ := q1
  obtain ⟨tk, rfl⟩ := r1
  refine thn (hb pins s1 σ H1 _ I1 q1) fun u s2 q2 => ?_
  obtain ⟨r, lo, hi, t1, t2, t3, H2, rfl, ho, I2, q⟩ := q2
  exact NotIn_slot ⟨_, ho, rfl⟩ F.slot_range_contains (call_meets F.slot_range_contains ⟨_, ho, rfl⟩ F.entry_range_contains (F.args_range_contains_2 (.ref r) (.int k tk)) (q_contains r lo hi k t1 t2 t3 tk) ⟨ho, wpAny_truthy_bool ⟨.bl _, H2, I2, rfl, by rw [place1]; exact q⟩⟩)
theorem pt_ninRg (ha : PE X a ta) (hb : PRg X b tr) (hm : behindInMarks .NotIn b = false := by rfl) : PT X (.Compare a [.NotIn] [b] pos) (tTest (tNinRg ta tr)) := by
  refine ⟨fun pins s σ H Q I h => ?_⟩
  refine wpAny_isTrue_Compare1 (thn (ha.run pins s σ H _ I h) fun v s1 ⟨x, H1, I1, r1, q1⟩ => ?_) hm
  obtain ⟨k, rfl, q1⟩ := q1
  obtain ⟨tk, rfl⟩ := r1
  refine thn (hb pins s1 σ H1 _ I1 q1) fun u s2 q2 => ?_
  obtain ⟨r, lo, hi, t1, t2, t3, H2, rfl, ho, I2, b', e, q⟩ := q2
  cases e
  exact NotIn_slot ⟨_, ho, rfl⟩ F.slot_range_contains (call_meets F.slot_range_contains ⟨_, ho, rfl⟩ F.entry_range_contains (F.args_range_contains_2 (.ref r) (.int k tk)) (q_contains r lo hi k t1 t2 t3 tk) ⟨ho, wpAny_truthy_bool (wpAny_truthy_bool ⟨H2, I2, by rw [place1]; exact q⟩)⟩)
theorem lenK {K : PySem.W.Frag} (e : X.K = K := by rfl) : CallR X (.builtin "len") (fun xs H Q => ∃ p ys, xs = [V.ref p] ∧ (SqL K H p ys ∨ SqT K H p ys) ∧ Q (V.int ys.length) H) := e ▸ call_len_seq
end
end MXt
/-! Small facts over any row. -/
namespace MZ
open PySem PySem.Spec PyProof.Rows L2 LK MY
theorem gone {H H1 : Hp} {p : Addr} (s : Same H H1) (n : H1 p = none) : H p = none := by
  cases e : H p with
  | none => rfl
  | some o => rw [s _ _ e] at n; cases n
theorem cut_drop {xs : List V} {i : Nat} : cutV xs (some (i : Int)) none = xs.drop i := by
  unfold cutV
  rw [HT.sIx_nat, HT.sIx_none]
  rcases Nat.le_total i xs.length with h | h
  · rw [Nat.min_eq_left h, List.take_of_length_le (by rw [List.length_drop]; omega)]
  · rw [Nat.min_eq_right h, List.drop_eq_nil_of_le (Nat.le_refl _), List.drop_eq_nil_of_le h, List.take_nil]
theorem cut_to {xs : List V} {i : Nat} : cutV xs none (some (i : Int)) = xs.take i := by
  unfold cutV
  rw [HT.sIx_nat, HT.sIx_none]
  rcases Nat.le_total i xs.length with h | h
  · rw [Nat.min_eq_left h]
    rfl
  · rw [Nat.min_eq_right h, List.take_of_length_le h, Nat.sub_zero, List.drop_zero, List.take_of_length_le (Nat.le_refl _)]
theorem cut_mid {xs : List V} {i n : Nat} (h : i ≤ xs.length) : cutV xs (some (i : Int)) (some ((i : Int) + (n : Int))) = (xs.drop i).take n := by
  unfold cutV
  rw [show (i : Int) + (n : Int) = ((i + n : Nat) : Int) by omega, HT.sIx_nat, HT.sIx_nat, Nat.min_eq_left h]
  refine List.take_eq_take_iff.mpr ?_
  rw [List.length_drop]
  omega
theorem stJ {t : TS} {D : Ends} {σ : L2.St} {H : Hp} (R : L2.St → Hp → Prop) (h : ∀ D' : Ends, (∀ σ' H', R σ' H' → D'.nx σ' H') → t D' σ H) (q : ∀ σ' H', R σ' H' → D.nx σ' H') : t D σ H := h D q
theorem exK {te : TE} {σ : L2.St} {H : Hp} {Q : VK} (R : V → Hp → Prop) (h : ∀ Q' : VK, (∀ x H', R x H' → Q' x H') → te σ H Q') (q : ∀ x H', R x H' → Q x H') : te σ H Q := h Q q
theorem asgI {te : TE} {g : TG} {R : TS} {D : Ends} {σ : L2.St} {H : Hp} (h : te σ H fun x H1 => g x σ H1 (R D)) : tSeq (tAsg te g) R D σ H := h
theorem cr_ne {H : Hp} {c p : Addr} {B : Nat} (h : CR H c B) (n : H p = none) : p ≠ c := fun e => by
  subst e
  obtain ⟨_, _, _, e, _⟩ := h
  rw [e] at n
  cases n
theorem pi_listK {X : Cx} {K : PySem.W.Frag} {tg l : Expr} {tl : TE} (hl : PE X l tl) (e : X.K = K := by rfl) : PI X tg l (iList K tl) := e ▸ pi_list hl
theorem pi_tupK {X : Cx} {K : PySem.W.Frag} {tg l : Expr} {tl : TE} (hl : PE X l tl) (e : X.K = K := by rfl) : PI X tg l (iTup K tl) := e ▸ pi_tup hl
abbrev nI (ks : List Nat) : List V := ks.map fun k : Nat => V.int (k : Int)
theorem nI_ints (ks : List Nat) : nI ks = (ks.map fun k : Nat => (k : Int)).map V.int := by
  unfold nI
  rw [List.map_map]
  rfl
theorem nI_app (a b : List Nat) : nI (a ++ b) = nI a ++ nI b := List.map_append
theorem nI_take {ks : List Nat} {n : Nat} : (nI ks).take n = nI (ks.take n) := by
  unfold nI
  rw [List.map_take]
theorem nI_drop {ks : List Nat} {n : Nat} : (nI ks).drop n = nI (ks.drop n) := by
  unfold nI
  rw [List.map_drop]
theorem dp_nI {K : PySem.W.Frag} {H : Hp} : ∀ p : List Nat, DpAll K H (nI p) (p.map fun k : Nat => PyData.int (k : Int))
  | [] => .nil
  | k :: p => .cons (.int _) (dp_nI p)
theorem dp_ints {K : PySem.W.Frag} {H : Hp} : ∀ p : List Int, DpAll K H (p.map V.int) (p.map PyData.int)
  | [] => .nil
  | k :: p => .cons (.int _) (dp_ints p)
/-- what is no list stays -/
def Tl (H H' : Hp) : Prop := ∀ b o, (∀ xs, o ≠ .lst xs) → H b = some o → H' b = some o
theorem Tl.bt {c : Addr} {H H' : Hp} {B : Nat} (h : CR H c B) (b : Bt c H H') : Tl H H' := fun x o no e => b x o (h.ne e no) e
theorem Tl.same {H H' : Hp} (s : Same H H') : Tl H H' := fun x o _ e => s x o e
theorem Tl.own {H : Hp} {p : Addr} {xs : List V} {o : HO} (h : H p = some (.lst xs)) : Tl H (upd H p o) := fun x u no e => by
  rw [upd_ne (fun q => by rw [q, h] at e; cases e; exact no xs rfl)]
  exact e
theorem Tl.trans {H H1 H2 : Hp} (a : Tl H H1) (b : Tl H1 H2) : Tl H H2 := fun x o n e => b x o n (a x o n e)
theorem sqT_tl {K : PySem.W.Frag} {H H' : Hp} {a : Addr} {xs : List V} (e : Tl H H') (h : SqT K H a xs) : SqT K H' a xs := by
  rcases h with (h | ⟨o, h⟩) | h
  · exact .inl (.inl (e _ _ (fun xs z => by cases z) h))
  · exact .inl (.inr ⟨o, e _ _ (fun xs z => by cases z) h⟩)
  · exact .inr h
mutual
/-- no list within -/
def noL : PyData → Bool
  | .list _ | .dict _ => false
  | .tuple xs => noLs xs
  | _ => true
def noLs : List PyData → Bool
  | [] => true
  | x :: r => noL x && noLs r
end
mutual
theorem dp_tl {K : PySem.W.Frag} {H H' : Hp} (e : Tl H H') : ∀ {v : V} {d : PyData}, noL d = true → Dp K H v d → Dp K H' v d
  | _, _, _, .non => .non
  | _, _, _, .bl b => .bl b
  | _, _, _, .int i => .int i
  | _, _, _, .str x => .str x
  | _, _, n, .lst s a => Bool.noConfusion n
  | _, _, n, .tup s a => .tup (sqT_tl e s) (dps_tl e n a)
theorem dps_tl {K : PySem.W.Frag} {H H' : Hp} (e : Tl H H') : ∀ {vs : List V} {ds : List PyData}, noLs ds = true → DpAll K H vs ds → DpAll K H' vs ds
  | _, _, _, .nil => .nil
  | _, _, n, .cons a r => by
    rw [noLs, Bool.and_eq_true] at n
    exact .cons (dp_tl e n.1 a) (dps_tl e n.2 r)
end
theorem noLs_iff {ds : List PyData} : noLs ds = true ↔ ∀ d ∈ ds, noL d = true := by
  induction ds with
  | nil => exact ⟨fun _ d m => absurd m List.not_mem_nil, fun _ => rfl⟩
  | cons a r ih =>
    rw [noLs, Bool.and_eq_true, ih]
    exact ⟨fun h d m => (List.mem_cons.mp m).elim (fun e => e ▸ h.1) (h.2 d), fun h => ⟨h a List.mem_cons_self, fun d m => h d (List.mem_cons_of_mem _ m)⟩⟩
theorem dps_get {K : PySem.W.Frag} {H : Hp} : ∀ {vs : List V} {ds : List PyData} {i : Nat} {v : V} {d : PyData}, DpAll K H vs ds → vs[i]? = some v → ds[i]? = some d → Dp K H v d
  | _, _, _, _, _, .nil, h, _ => by simp at h
  | _, _, 0, _, _, .cons a r, h, e => by
    cases h
    cases e
    exact a
  | _, _, i + 1, _, _, .cons a r, h, e => dps_get (i := i) r (by simpa using h) (by simpa using e)
theorem dps_take {K : PySem.W.Frag} {H : Hp} : ∀ {vs : List V} {ds : List PyData} (n : Nat), DpAll K H vs ds → DpAll K H (vs.take n) (ds.take n)
  | _, _, 0, _ => by simpa using .nil
  | _, _, n + 1, .nil => .nil
  | _, _, n + 1, .cons a r => .cons a (dps_take n r)
theorem dps_drop {K : PySem.W.Frag} {H : Hp} : ∀ {vs : List V} {ds : List PyData} (n : Nat), DpAll K H vs ds → DpAll K H (vs.drop n) (ds.drop n)
  | _, _, 0, h => h
  | _, _, n + 1, .nil => .nil
  | _, _, n + 1, .cons _ r => dps_drop n r
theorem ints_back {K : PySem.W.Frag} {H : Hp} : ∀ {vs : List V} {ns : List Int}, DpAll K H vs (ns.map PyData.int) → vs = ns.map V.int
  | _, [], .nil => rfl
  | _, n :: r, .cons (.int _) t => by rw [ints_back t]; rfl
theorem layAll_iff {ds : List PyData} : PyData.canLayAll0 ds = true ↔ ∀ d ∈ ds, d.canLay0 = true := by
  induction ds with
  | nil => exact ⟨fun _ d m => absurd m List.not_mem_nil, fun _ => rfl⟩
  | cons a r ih =>
    rw [PyData.canLayAll0, Bool.and_eq_true, ih]
    exact ⟨fun h d m => (List.mem_cons.mp m).elim (fun e => e ▸ h.1) (h.2 d), fun h => ⟨h a List.mem_cons_self, fun d m => h d (List.mem_cons_of_mem _ m)⟩⟩
theorem dpAll_iff {n : Nat} {ds : List PyData} : PyData.depthAll ds ≤ n ↔ ∀ d ∈ ds, d.depth ≤ n := by
  induction ds with
  | nil => exact ⟨fun _ d m => absurd m List.not_mem_nil, fun _ => Nat.zero_le _⟩
  | cons a r ih =>
    rw [show PyData.depthAll (a :: r) = max a.depth (PyData.depthAll r) from rfl, Nat.max_le, ih]
    exact ⟨fun h d m => (List.mem_cons.mp m).elim (fun e => e ▸ h.1) (h.2 d), fun h => ⟨h a List.mem_cons_self, fun d m => h d (List.mem_cons_of_mem _ m)⟩⟩
theorem ixN_nat {n j : Nat} (hj : j < n) : ixN n (j : Int) = some j := by
  unfold ixN
  rw [if_pos (by omega), if_pos (by omega)]
  simp
theorem sh_ints (ns : List Int) : SeqAt.shaped (.list (ns.map PyData.int)) = true := by
  refine shaped_of (layAll_iff.mpr fun d hd => by obtain ⟨i, _, rfl⟩ := List.mem_map.mp hd; rfl) ?_
  have : PyData.depthAll (ns.map PyData.int) ≤ 0 := dpAll_iff.mpr fun d hd => by obtain ⟨i, _, rfl⟩ := List.mem_map.mp hd; exact Nat.le_refl _
  show _ + 1 ≤ 64
  omega
end MZ
/-! law. -/
namespace T6
open PySem PySem.Spec PyProof.Rows L2 LK MXo MXi MXp MXq MXg
/-- the class, its __init__ -/
structure Cl2 (P : Program) (w : World) (K : PySem.W.Frag) (mg : Str → Option Value) (base : Heap) (CC CF CL : Addr) where
  (fC : Addr)
  (dC : FuncData)
  cc : Cls K CC
  n1 : NoAttr K CC "_loops"
  n2 : NoAttr K CC "_fast"
  mC : Mk K CC fC
  oC : FnOk P w K mg base (L2N.CX P w) 6 fC dC ["self", "loops", "fast"] (spClo K CC CF CL)
  gC : mg "Cloth" = some (.ref CC)
  bC : Binds K dC ["self", "loops", "fast"] []
theorem sqT_but {K : PySem.W.Frag} {H H' : Hp} {x a C dx : Addr} {fs : List (Str × V)} {xs : List V} (hx : H x = some (.ins C dx fs)) (s : But x H H') (h : SqT K H a xs) : SqT K H' a xs := by
  rcases h with (h | ⟨o, h⟩) | h
  · exact .inl (.inl (s _ _ (ne_of h hx (by intro q; cases q)) h))
  · exact .inl (.inr ⟨o, s _ _ (ne_of h hx (by intro q; cases q)) h⟩)
  · exact .inr h
theorem lps_but {K : PySem.W.Frag} {H H' : Hp} {x C dx : Addr} {fs : List (Str × V)} (hx : H x = some (.ins C dx fs)) (s : But x H H') : ∀ {xs : List V} {ls : List Lp}, DpAll K H xs (ls.map lpD) → DpAll K H' xs (ls.map lpD)
  | _, [], .nil => .nil
  | _, _ :: _, .cons h r => by
    refine .cons ?_ (lps_but hx s r)
    cases h with
    | tup q a =>
      cases a with
      | cons d1 a =>
        cases d1
        cases a with
        | cons d2 dn =>
          cases dn
          cases d2 with
          | tup s2 a2 => exact .tup (sqT_but hx s q) (.cons (.str _) (.cons (.tup (sqT_but hx s s2) (dp_tk_ints a2)) .nil))
/-- a cloth of right loops is made -/
theorem clo_any {K : PySem.W.Frag} {CC CF CL : Addr} {H : Hp} {x dx l g : Addr} {Q : VK} {E : XK} {ys : List Str} {ls : List Lp} {fs : List Int} {xs : List V} (cc : Cls K CC) (n1 : NoAttr K CC "_loops") (n2 : NoAttr K CC "_fast") (hl : H l = some (.lst xs)) (dl : DpAll K H xs (ls.map lpD)) (hg : H g = some (.lst (fs.map V.int))) (ok : OkLs ys ls) (hy : ∀ y ∈ ys, Yn y) (hf : OkFs ls.length fs) (ln : ls.length ≤ 1000) (nx : H x = none) (ndx : H dx = none)
    (k : ∀ (H' : Hp) (ms : List Int) (L G : Addr) (xs' : List V), Same H H' → H L = none → H G = none → H' x = some (.ins CC dx [("_loops", .ref L), ("_fast", .ref G)]) → H' L = some (.lst xs') → DpAll K H' xs' (ls.map lpD) → H' G = some (.lst (ms.map V.int)) → ms.Perm fs → ms.Pairwise (· ≤ ·) → Q .non H') : spClo K CC CF CL [.ref x, .ref l, .ref g] (L2.upd (L2.upd H dx (.own x)) x (.ins CC dx [])) Q E := by
  have s0 : Same H (L2.upd (L2.upd H dx (.own x)) x (.ins CC dx [])) := fun b o e => by
    rw [upd_ne (ne_of_none e nx), upd_ne (ne_of_none e ndx)]
    exact e
  have due := due_ok ok hy hf
  have it := lps_items ok hy ln (by decide)
  have gtm : tame (.list (ls.map lpD)) = true := by
    show (decide ((ls.map lpD).length ≤ 1000) && tameAll (ls.map lpD)) = true
    rw [it.tm, Bool.and_true]
    exact decide_eq_true it.ln
  have tf : tame (.list (fs.map PyData.int)) = true := by
    rw [tame, tame_ints, Bool.and_true, List.length_map]
    have := hf.len
    exact decide_eq_true (by omega)
  refine ⟨x, dx, .ref l, .ref g, .list (ls.map lpD), .list (fs.map PyData.int), rfl, upd_same, cc, n1, n2, .lst (SqL.of (s0 _ _ hl)) (dps_same s0 dl), .lst (SqL.of (s0 _ _ hg)) (dp_ints_of _), gtm, it.lay, tf, fun i q => ?_, fun i q => ?_, fun ds ns ms L G H' xs' q ed ee pm pw nL nG LG hx hL hxs hG bx => ?_⟩
  · rw [due] at q
    cases q
  · rw [due] at q
    cases q
  · cases ed
    have e : ns = fs := by
      have e1 : fs.map PyData.int = ns.map PyData.int := by injection ee
      have e2 := congrArg (List.map fun d => match d with | PyData.int i => i | _ => 0) e1
      simp only [List.map_map, Function.comp_def, List.map_id'] at e2
      exact e2.symm
    subst e
    have back : ∀ {p : Addr}, L2.upd (L2.upd H dx (.own x)) x (.ins CC dx []) p = none → H p = none := fun {p} n => MZ.gone s0 n
    exact k H' ms L G xs' (fun b o e => bx b o (ne_of_none e nx) (s0 b o e)) (back nL) (back nG) hx hL (lps_but upd_same bx hxs) hG pm pw
end T6
/-! Charts as data. -/
namespace MZ
open PySem PySem.Spec PyProof.Rows L2 LK MY
/-- what a stitch takes and draws -/
abbrev Sti := Nat × Nat
def stD (s : Sti) : PyData := .tuple [.int (s.1 : Int), .int (s.2 : Int)]
structure Rw where
  nm : Str
  off : Nat
  sts : List Sti
def rwD (r : Rw) : PyData := .tuple [.str r.nm, .int (r.off : Int), .tuple (r.sts.map stD)]
def tks (ss : List Sti) : Nat := (ss.map fun s => s.1).sum
def drs (ss : List Sti) : Nat := (ss.map fun s => s.2).sum
structure OkSt (ss : List Sti) (count due : Nat) : Prop where
  tk : tks ss = count
  dr : drs ss = due
  ok : ∀ s ∈ ss, s.1 ≤ 3 ∧ 1 ≤ s.2 ∧ s.2 ≤ 3
structure OkRow (c : Nat) (r : Rw) : Prop where
  nm : Yn r.nm
  off : r.off < c
  sts : OkSt r.sts c (drs r.sts)
/-- rows that fit one above the other -/
def Rows : Nat → List Rw → Nat → Prop
  | c, [], c' => c = c'
  | c, r :: rs, c' => OkRow c r ∧ Rows (drs r.sts) rs c'
def cnts (c : Nat) (rs : List Rw) : List Nat := c :: rs.map fun r => drs r.sts
theorem tks_app (a b : List Sti) : tks (a ++ b) = tks a + tks b := by
  unfold tks
  rw [List.map_append, List.sum_append]
theorem drs_app (a b : List Sti) : drs (a ++ b) = drs a + drs b := by
  unfold drs
  rw [List.map_append, List.sum_append]
theorem len_drs : ∀ {ss : List Sti}, (∀ s ∈ ss, 1 ≤ s.2) → ss.length ≤ drs ss
  | [], _ => Nat.zero_le _
  | a :: r, h => by
    have h1 := h a List.mem_cons_self
    have h2 := len_drs (ss := r) fun s m => h s (List.mem_cons_of_mem _ m)
    unfold drs at h2 ⊢
    rw [List.length_cons, List.map_cons, List.sum_cons]
    omega
theorem OkSt.len {ss : List Sti} {c d : Nat} (h : OkSt ss c d) : ss.length ≤ d := by
  rw [← h.dr]
  exact len_drs fun s m => (h.ok s m).2.1
theorem noL_st (s : Sti) : noL (stD s) = true := rfl
theorem noLs_sts (ss : List Sti) : noLs (ss.map stD) = true := noLs_iff.mpr fun d hd => by
  obtain ⟨s, _, rfl⟩ := List.mem_map.mp hd
  rfl
theorem noL_rw (r : Rw) : noL (rwD r) = true := by
  show (true && (true && (noLs (r.sts.map stD) && true))) = true
  rw [noLs_sts]
  rfl
theorem noLs_rws (rs : List Rw) : noLs (rs.map rwD) = true := noLs_iff.mpr fun d hd => by
  obtain ⟨s, _, rfl⟩ := List.mem_map.mp hd
  exact noL_rw s
theorem rows_app {c d e : Nat} : ∀ {rs qs : List Rw}, Rows c rs d → Rows d qs e → Rows c (rs ++ qs) e
  | [], _, h, k => by
    cases (show c = d from h)
    exact k
  | r :: rs, _, h, k => ⟨h.1, rows_app h.2 k⟩
theorem cnts_len (c : Nat) (rs : List Rw) : (cnts c rs).length = rs.length + 1 := by
  unfold cnts
  rw [List.length_cons, List.length_map]
theorem cnts_end {c d : Nat} : ∀ {rs : List Rw}, Rows c rs d → (cnts c rs)[rs.length]? = some d
  | [], h => by
    cases (show c = d from h)
    rfl
  | r :: rs, h => by
    have := cnts_end h.2
    unfold cnts at this ⊢
    rw [List.length_cons, List.getElem?_cons_succ, List.map_cons]
    exact this
theorem rows_at {d : Nat} : ∀ {c : Nat} {rs : List Rw} {i : Nat} {r : Rw}, Rows c rs d → rs[i]? = some r → ∃ a, (cnts c rs)[i]? = some a ∧ (cnts c rs)[i + 1]? = some (drs r.sts) ∧ OkRow a r
  | c, q :: rs, 0, r, h, e => by
    cases e
    exact ⟨c, rfl, rfl, h.1⟩
  | c, q :: rs, i + 1, r, h, e => by
    obtain ⟨a, h1, h2, h3⟩ := rows_at (i := i) h.2 (by simpa using e)
    exact ⟨a, by unfold cnts at h1 ⊢; rw [List.getElem?_cons_succ, List.map_cons]; exact h1, by unfold cnts at h2 ⊢; rw [List.getElem?_cons_succ, List.map_cons]; exact h2, h3⟩
end MZ
/-! _law_stitches -/
namespace T6
open PySem PySem.Spec PyProof.Rows L2 LK MY MZ
theorem nI_get {ks : List Nat} {i k : Nat} (h : ks[i]? = some k) : (nI ks)[i]? = some (V.int (k : Int)) := by
  unfold nI
  rw [List.getElem?_map, h]
  rfl
theorem nI_set (ks : List Nat) (i k : Nat) : nI (ks.set i k) = (nI ks).set i (V.int (k : Int)) := by
  unfold nI
  rw [List.map_set]
theorem sum_ge : ∀ {ts : List Nat}, (∀ x ∈ ts, 3 ≤ x) → 3 * ts.length ≤ ts.sum
  | [], _ => Nat.le_refl _
  | a :: r, h => by
    have h1 := h a List.mem_cons_self
    have h2 := sum_ge (ts := r) fun x m => h x (List.mem_cons_of_mem _ m)
    rw [List.length_cons, List.sum_cons]
    omega
theorem sum_set : ∀ {ts : List Nat} {i z : Nat}, ts[i]? = some z → ∀ v, (ts.set i v).sum + z = ts.sum + v
  | a :: r, 0, z, h, v => by
    cases h
    rw [List.set_cons_zero, List.sum_cons, List.sum_cons]
    omega
  | a :: r, i + 1, z, h, v => by
    have := sum_set (ts := r) (i := i) (z := z) (by simpa using h) v
    rw [List.set_cons_succ, List.sum_cons, List.sum_cons]
    omega
/-- right stitches, drawn -/
def spStc (K : PySem.W.Frag) : Sp := fun vs H Q _ => ∃ (c : Addr) (count due B : Nat), vs = [.ref c, .int count, .int due] ∧ 1 ≤ count ∧ count ≤ 100 ∧ 1 ≤ due ∧ due ≤ 100 ∧ (count + 2) / 3 ≤ due ∧ CR H c B ∧ B + 1000 < 10 ^ 12 ∧
  ∀ (t : Addr) (H' : Hp) (xs : List V) (ss : List Sti), CR H' c (B + 1000) → Bt c H H' → H' t = some (.tup xs) → DpAll K H' xs (ss.map stD) → OkSt ss count due → Q (.ref t) H'
section
variable {P : Program} {w : World} {K : PySem.W.Frag} {mg : Str → Option Value} {base : Heap}
abbrev sStc : Stmt := top 39
theorem scStc : FnScope ["creel", "count", "due", "low", "many", "takes", "draws", "laid", "turn", "spots", "spot", "found", "some", "k"] ["creel", "count", "due"] (defScope sStc) := ⟨rfl, rfl, rfl, by decide +kernel, rfl, by decide +kernel, by decide +kernel⟩
theorem ok_Stc {f : Addr} {fd : FuncData} (F : Fun K "_law_stitches" "_law_stitches" sStc f fd) (B : Bl mg)
    {f__law_ply : Addr} {d__law_ply : FuncData} (G__law_ply : FnOk P w K mg base CX0 1 f__law_ply d__law_ply ["creel", "span"] spPly) (g__law_ply : mg "_law_ply" = some (.ref f__law_ply)) (k__law_ply : PySem.W.keepIn K (.ref f__law_ply) = true) (b__law_ply : Binds K d__law_ply ["creel", "span"] []) : FnOk P w K mg base CX0 2 f fd ["creel", "count", "due"] (spStc K) := by
  refine F.ok scStc (fun vs H Q E h => ?_) (fun cdv A outer s H vs Q E hr h => ?_)
  · obtain ⟨c, count, due, _, rfl, _⟩ := h
    rfl
  · obtain ⟨c, count, due, bb, rfl, c1, c100, d1, d100, cd, hc, hB, k⟩ := h
    refine ⟨_, pss_cons (ps_set (i := 3) scStc.nd rfl (Or.inl rfl) (pe_op op_fdivW (pe_op op_add (pv 1) pe_int) pe_int))
      (pss_cons (ps_set (i := 4) scStc.nd rfl (Or.inl rfl) (pe_op op_add (pv 3) (pe_call (E := E0) G__law_ply (hr.mono (by decide)) rfl g__law_ply k__law_ply b__law_ply .nil pass0 (pa_cons (pv 0) (pa_cons (pe_op op_add (pe_op op_sub (pe_callB (call_min2 rfl) (by rfl) (B "min" (by decide)) (by decide +kernel) (pa_cons (pv 1) (pa_cons (pv 2) pa_nil))) (pv 3)) pe_int) pa_nil)))))
      (pss_cons (ps_asg (pe_tup (pa_cons (pe_lc (own := [("k", 13)]) (g := gName 13) (tt := tYes) rfl scStc.nd (pi_range1 (by rfl) (B "range" (by decide)) (pa_cons (pv 4) pa_nil)) (blkOk_by (N := ["creel", "count", "due", "low", "many", "takes", "draws", "laid", "turn", "spots", "spot", "found", "some", "k"]) (sc := defScope sStc) (by decide +kernel)) (fun _ _ _ _ _ => pg_name (i := 13) scStc.nd rfl (Or.inl rfl)) (fun _ _ _ _ _ => pts_nil) (fun _ _ _ _ _ => pe_int)) (pa_cons (pe_lc (own := [("k", 13)]) (g := gName 13) (tt := tYes) rfl scStc.nd (pi_range1 (by rfl) (B "range" (by decide)) (pa_cons (pv 4) pa_nil)) (blkOk_by (N := ["creel", "count", "due", "low", "many", "takes", "draws", "laid", "turn", "spots", "spot", "found", "some", "k"]) (sc := defScope sStc) (by decide +kernel)) (fun _ _ _ _ _ => pg_name (i := 13) scStc.nd rfl (Or.inl rfl)) (fun _ _ _ _ _ => pts_nil) (fun _ _ _ _ _ => pe_int)) (pa_cons pe_int pa_nil)))) (pg_tup rfl (pgs_cons (pg_name (i := 5) scStc.nd rfl (Or.inr rfl)) (pgs_cons (pg_name (i := 6) scStc.nd rfl (Or.inr rfl)) (pgs_cons (pg_name (i := 7) scStc.nd rfl (Or.inl rfl)) pgs_nil)))))
      (pss_cons (ps_for PassesOwn.never rfl (pi_range1 (by rfl) (B "range" (by decide)) (pa_cons (pe_op op_sub (pv 1) (pv 4)) pa_nil)) (pg_name (i := 8) scStc.nd rfl (Or.inl rfl)) (pss_cons (ps_setLc (i := 9) (own := [("k", 13)]) (g := gName 13) rfl scStc.nd rfl rfl (sw_true rfl rfl rfl (by decide +kernel)) (pi_range1 (by rfl) (B "range" (by decide)) (pa_cons (pv 4) pa_nil)) (blkOk_by (N := ["creel", "count", "due", "low", "many", "takes", "draws", "laid", "turn", "spots", "spot", "found", "some", "k"]) (sc := defScope sStc) (by decide +kernel)) (fun _ _ _ _ _ => pg_name (i := 13) scStc.nd rfl (Or.inl rfl)) (fun _ _ _ _ _ => pts_one (pt_cmpR op_lt (pe_ix (ixl (K := K)) (pv 5) (pv 13) (fun _ _ => rfl)) pe_int (nomark _))) (fun _ _ _ _ _ => pv 13))
      (pss_cons (ps_set (i := 10) scStc.nd rfl (Or.inl rfl) (pe_ix ix_list (pv 9) (pe_call (E := E0) G__law_ply (hr.mono (by decide)) rfl g__law_ply k__law_ply b__law_ply .nil pass0 (pa_cons (pv 0) (pa_cons (pe_callB call_len_seq (by rfl) (B "len" (by decide)) (by decide +kernel) (pa_cons (pv 9) pa_nil)) pa_nil))) (fun _ _ => rfl)))
      (pss_one (ps_asg (pe_op op_add (pe_ix ix_list (pv 5) (pv 10) (fun _ _ => rfl)) pe_int) (pg_sub (pv 5) (pv 10) set_list))))))
      (pss_cons (ps_for PassesOwn.never rfl (pi_range1 (by rfl) (B "range" (by decide)) (pa_cons (pe_op op_sub (pv 2) (pv 4)) pa_nil)) (pg_name (i := 8) scStc.nd rfl (Or.inl rfl)) (pss_cons (ps_setLc (i := 9) (own := [("k", 13)]) (g := gName 13) rfl scStc.nd rfl rfl (sw_true rfl rfl rfl (by decide +kernel)) (pi_range1 (by rfl) (B "range" (by decide)) (pa_cons (pv 4) pa_nil)) (blkOk_by (N := ["creel", "count", "due", "low", "many", "takes", "draws", "laid", "turn", "spots", "spot", "found", "some", "k"]) (sc := defScope sStc) (by decide +kernel)) (fun _ _ _ _ _ => pg_name (i := 13) scStc.nd rfl (Or.inl rfl)) (fun _ _ _ _ _ => pts_one (pt_cmpR op_lt (pe_ix (ixl (K := K)) (pv 6) (pv 13) (fun _ _ => rfl)) pe_int (nomark _))) (fun _ _ _ _ _ => pv 13))
      (pss_cons (ps_set (i := 10) scStc.nd rfl (Or.inl rfl) (pe_call (E := E0) G__law_ply (hr.mono (by decide)) rfl g__law_ply k__law_ply b__law_ply .nil pass0 (pa_cons (pv 0) (pa_cons (pe_op op_add (pe_callB call_len_seq (by rfl) (B "len" (by decide)) (by decide +kernel) (pa_cons (pv 9) pa_nil)) pe_int) pa_nil))))
      (pss_one (ps_if (pt_cmpR op_lt (pv 10) (pe_callB call_len_seq (by rfl) (B "len" (by decide)) (by decide +kernel) (pa_cons (pv 9) pa_nil)) (nomark _)) (pss_one (ps_asg (pe_op op_add (pe_ix ix_list (pv 6) (pe_ix ix_list (pv 9) (pv 10) (fun _ _ => rfl)) (fun _ _ => rfl)) pe_int) (pg_sub (pv 6) (pe_ix ix_list (pv 9) (pv 10) (fun _ _ => rfl)) set_list))) (pss_one (ps_set (i := 7) scStc.nd rfl (Or.inl rfl) (pe_op op_add (pv 7) pe_int))))))))
      (pss_cons (ps_setLc (i := 11) (own := [("k", 13)]) (g := gName 13) (tt := tYes) rfl scStc.nd rfl rfl (sw_true rfl rfl rfl (by decide +kernel)) (pi_range1 (by rfl) (B "range" (by decide)) (pa_cons (pv 4) pa_nil)) (blkOk_by (N := ["creel", "count", "due", "low", "many", "takes", "draws", "laid", "turn", "spots", "spot", "found", "some", "k"]) (sc := defScope sStc) (by decide +kernel)) (fun _ _ _ _ _ => pg_name (i := 13) scStc.nd rfl (Or.inl rfl)) (fun _ _ _ _ _ => pts_nil) (fun _ _ _ _ _ => pe_tup (pa_cons (pe_ix (ixl (K := K)) (pv 5) (pv 13) (fun _ _ => rfl)) (pa_cons (pe_ix (ixl (K := K)) (pv 6) (pv 13) (fun _ _ => rfl)) pa_nil))))
      (pss_cons (ps_for PassesOwn.never rfl (pi_range1 (by rfl) (B "range" (by decide)) (pa_cons (pv 7) pa_nil)) (pg_name (i := 8) scStc.nd rfl (Or.inl rfl)) (pss_cons (ps_par (i := 10) (j := 12) rfl scStc.nd rfl rfl (by decide) rfl rfl (pa_cons (pe_call (E := E0) G__law_ply (hr.mono (by decide)) rfl g__law_ply k__law_ply b__law_ply .nil pass0 (pa_cons (pv 0) (pa_cons (pe_op op_add (pe_callB call_len_seq (by rfl) (B "len" (by decide)) (by decide +kernel) (pa_cons (pv 11) pa_nil)) pe_int) pa_nil))) (pa_cons (pe_callB (call_min2 rfl) (by rfl) (B "min" (by decide)) (by decide +kernel) (pa_cons (pv 7) (pa_cons (pe_op op_add pe_int (pe_call (E := E0) G__law_ply (hr.mono (by decide)) rfl g__law_ply k__law_ply b__law_ply .nil pass0 (pa_cons (pv 0) (pa_cons pe_int pa_nil)))) pa_nil))) pa_nil)) (by rfl))
      (pss_one (ps_if (pt_cmpR op_gt (pv 12) pe_int (nomark _)) (pss_one (ps_par (i := 11) (j := 7) rfl scStc.nd rfl rfl (by decide) rfl rfl (pa_cons (pe_op op_cat (pe_op op_cat (pe_slice sl_list (pv 11) po_none (po_some (pv 10))) (pe_lst (pa_cons (pe_tup (pa_cons pe_int (pa_cons (pv 12) pa_nil))) pa_nil))) (pe_slice sl_list (pv 11) (po_some (pv 10)) po_none)) (pa_cons (pe_op op_sub (pv 7) (pv 12)) pa_nil)) (by rfl))) pss_nil))))
      (pss_one (ps_ret (pe_callTy call_tuple_of (by rfl) (B "tuple" (by decide)) (by decide +kernel) (pa_cons (pv 11) pa_nil)))))))))), ?_⟩
    have ty2 : sizeLine = 16777216 := sizeLine_eq
    refine ⟨_, rfl, _, _, rfl, rfl, _, _, rfl, rfl, wide_div (b := 2) (by decide) (by decide) (by decide) (by decide), ?_⟩
    dsimp only
    rw [show ((count : Int) + 2) / 3 = (((count + 2) / 3 : Nat) : Int) by omega]
    obtain ⟨low, hlow⟩ : ∃ low, (count + 2) / 3 = low := ⟨_, rfl⟩
    rw [hlow] at cd ⊢
    dsimp only [gName, List.set]
    refine ⟨_, rfl, _, rfl, _, rfl, _, rfl, _, _, rfl, ?_⟩
    dsimp only
    have mn : (if (due : Int) < (count : Int) then (due : Int) else (count : Int)) = ((min count due : Nat) : Int) := by
      split <;> omega
    rw [mn]
    refine ⟨_, rfl, _, _, rfl, rfl, _, _, rfl, rfl, c, _, bb, rfl, by omega, by omega, hc, by omega, fun d H1 q0 q1 cr1 b1 _ => ⟨_, _, rfl, rfl, ?_⟩⟩
    obtain ⟨dn, rfl⟩ := Int.eq_ofNat_of_zero_le q0
    obtain ⟨many, hm⟩ : ∃ many : Nat, low + dn = many := ⟨_, rfl⟩
    dsimp only
    rw [show (low : Int) + (dn : Int) = (many : Int) by omega]
    have m1 : 1 ≤ many := by omega
    have mc : many ≤ count := by omega
    have md : many ≤ due := by omega
    have m3 : count ≤ 3 * many := by omega
    clear q0 q1 hm mn hlow
    dsimp only [gName, List.set]
    refine asgI ?_
    refine ⟨_, rfl, (many : Int), rfl, by omega, by omega, fun T nT => ?_⟩
    have ones : ((List.range many).filter fun _ => true).map (fun _ => V.int 1) = nI (List.replicate many 1) := by
      rw [List.filter_eq_self.mpr (fun _ _ => rfl)]
      unfold nI
      rw [List.map_replicate, List.map_const', List.length_range]
      rfl
    rw [Int.toNat_natCast]
    refine lcf_range (n := many) (fun _ => true) (fun _ => .int 1) nT (by omega) (fun i H2 yes no hi s2 y n => ⟨rfl, y rfl _ (Same.refl _)⟩) (fun H2 s2 eT => ?_)
    rw [ones] at eT
    refine ⟨_, rfl, (many : Int), rfl, by omega, by omega, fun W nW => ?_⟩
    rw [Int.toNat_natCast]
    refine lcf_range (n := many) (fun _ => true) (fun _ => .int 1) nW (by omega) (fun i H3 yes no hi s3 y n => ⟨rfl, y rfl _ (Same.refl _)⟩) (fun H3 s3 eW => ?_)
    rw [ones] at eW
    refine ⟨by show 3 ≤ sizeLine; decide, fun u nu => ?_⟩
    refine ⟨u, _, rfl, SqT.of upd_same, rfl, ?_⟩
    refine ⟨_, _, rfl, _, _, rfl, _, _, rfl, rfl, ?_⟩
    dsimp only [gName, gCons, gNil, List.set, tSeq]
    have hT0 : H T = none := by
      cases e : H T with
      | none => rfl
      | some o =>
        have := b1 _ _ (cr_ne cr1 nT) e
        rw [nT] at this
        cases this
    have Tc := cr_ne cr1 nT
    have hW1 : H1 W = none := gone s2 nW
    have hW0 : H W = none := by
      cases e : H W with
      | none => rfl
      | some o =>
        have := b1 _ _ (cr_ne cr1 hW1) e
        rw [hW1] at this
        cases this
    have Wc := cr_ne cr1 hW1
    have TW : T ≠ W := ne_none eT nW
    have s4 := (s2.trans s3).trans (same_new (o := .tup [.ref T, .ref W, .int 0]) nu)
    have cr4 := cr1.same s4
    have b4 := b1.trans (Bt.of (c := c) s4)
    have eT4 := same_new (o := .tup [.ref T, .ref W, .int 0]) nu _ _ (s3 _ _ eT)
    have eW4 := same_new (o := .tup [.ref T, .ref W, .int 0]) nu _ _ eW
    generalize upd H3 u (.tup [.ref T, .ref W, .int 0]) = H4 at cr4 b4 eT4 eW4
    clear s4 s3 s2 nu nW nT eT eW ones
    have toH : ∀ {Hn : Hp} {p : Addr} {B' : Nat}, Bt c H Hn → CR Hn c B' → Hn p = none → H p = none ∧ p ≠ c := fun {Hn p B'} bn cn np => by
      refine ⟨?_, cr_ne cn np⟩
      cases e : H p with
      | none => rfl
      | some o =>
        have := bn _ _ (cr_ne cn np) e
        rw [np] at this
        cases this
    refine stJ (fun σ Hn => ∃ (ts : List Nat) (o8 o9 o10 o11 o12 o13 : Option V), σ = [some (.ref c), some (.int count), some (.int due), some (.int low), some (.int many), some (.ref T), some (.ref W), some (.int 0), o8, o9, o10, o11, o12, o13] ∧ Hn T = some (.lst (nI ts)) ∧ Hn W = some (.lst (nI (List.replicate many 1))) ∧ CR Hn c (bb + 101) ∧ Bt c H Hn ∧ ts.length = many ∧ (∀ x ∈ ts, 1 ≤ x ∧ x ≤ 3) ∧ ts.sum = count) (fun D' aft => ?_) ?_
    · refine ⟨_, rfl, _, rfl, _, _, rfl, rfl, _, rfl, by omega, by omega, ?_⟩
      rw [show ((count : Int) - (many : Int)).toNat = count - many by omega]
      refine for_range (lo := 0) (n := count - many) (fun i σ Hn => ∃ (ts : List Nat) (o8 o9 o10 o11 o12 o13 : Option V), σ = [some (.ref c), some (.int count), some (.int due), some (.int low), some (.int many), some (.ref T), some (.ref W), some (.int 0), o8, o9, o10, o11, o12, o13] ∧ Hn T = some (.lst (nI ts)) ∧ Hn W = some (.lst (nI (List.replicate many 1))) ∧ CR Hn c (bb + 1 + i) ∧ Bt c H Hn ∧ ts.length = many ∧ (∀ x ∈ ts, 1 ≤ x ∧ x ≤ 3) ∧ ts.sum = many + i)
        ⟨List.replicate many 1, _, _, _, _, _, _, rfl, eT4, eW4, cr4, b4, List.length_replicate, fun x m => by rw [List.eq_of_mem_replicate m]; omega, by rw [List.sum_replicate_nat]; omega⟩ (fun i σ Hn hi hI => ?_) (fun σ Hn hI => ?_)
      · obtain ⟨ts, o8, o9, o10, o11, o12, o13, rfl, eT, eW, cn, bn, tl, tr, tsum⟩ := hI
        dsimp only [gName, List.set, tSeq]
        refine ⟨_, rfl, (many : Int), rfl, by omega, by omega, fun S nS => ?_⟩
        rw [Int.toNat_natCast]
        refine lcf_range (n := many) (fun k => decide ((ts[k]?).getD 0 < 3)) (fun k => .int (k : Int)) nS (by omega) (fun k H5 yes no hk s5 y n => ⟨rfl, ?_⟩) (fun H5 s5 eS => ?_)
        · obtain ⟨z, hz⟩ : ∃ z, ts[k]? = some z := ⟨_, List.getElem?_eq_getElem (by omega)⟩
          refine ⟨_, rfl, _, rfl, T, _, (k : Int), .int (z : Int), rfl, rfl, SqL.of (s5 _ _ eT), atI_nat (nI_get hz), _, _, rfl, rfl, _, rfl, ?_⟩
          by_cases q : z < 3
          · exact LK.ifT (decide_eq_true (by omega)) ⟨_, rfl, y (decide_eq_true (by rw [hz]; exact q)) _ (Same.refl _)⟩
          · exact LK.ifF (decide_eq_false (by omega)) (n (decide_eq_false (by rw [hz]; exact q)) _ (Same.refl _))
        have sub : ∀ k ∈ (List.range many).filter fun k => decide ((ts[k]?).getD 0 < 3), k < many ∧ ∃ z, ts[k]? = some z ∧ z < 3 := fun k hk => by
          obtain ⟨h1, h2⟩ := List.mem_filter.mp hk
          have h1 := List.mem_range.mp h1
          obtain ⟨z, hz⟩ : ∃ z, ts[k]? = some z := ⟨_, List.getElem?_eq_getElem (by omega)⟩
          have h2 := of_decide_eq_true h2
          rw [hz] at h2
          exact ⟨h1, z, hz, h2⟩
        have some_ : 0 < ((List.range many).filter fun k => decide ((ts[k]?).getD 0 < 3)).length := by
          refine List.length_pos_iff.mpr fun e => ?_
          have all : ∀ x ∈ ts, 3 ≤ x := fun x m => by
            obtain ⟨j, hj⟩ := List.getElem?_of_mem m
            have jl := (List.getElem?_eq_some_iff.mp hj).1
            have := List.filter_eq_nil_iff.mp e j (List.mem_range.mpr (by omega))
            rw [decide_eq_true_eq, hj] at this
            exact Nat.le_of_not_lt this
          have := sum_ge all
          omega
        have lle : ((List.range many).filter fun k => decide ((ts[k]?).getD 0 < 3)).length ≤ many := by
          have := List.length_filter_le (fun k => decide ((ts[k]?).getD 0 < 3)) (List.range many)
          rwa [List.length_range] at this
        have eS : H5 S = some (.lst (nI ((List.range many).filter fun k => decide ((ts[k]?).getD 0 < 3)))) := eS
        generalize ((List.range many).filter fun k => decide ((ts[k]?).getD 0 < 3)) = sp at eS sub some_ lle
        have c5 := cn.same s5
        have b5 := bn.trans (Bt.of (c := c) s5)
        have Sc := cr_ne cn nS
        dsimp only [gName, List.set, tSeq]
        refine ⟨_, rfl, _, rfl, _, rfl, S, _, rfl, .inl (SqL.of eS), ?_⟩
        rw [List.length_map]
        refine ⟨c, sp.length, _, rfl, by omega, by omega, c5, by omega, fun q H6 q0 q1 c6 b6 _ => ?_⟩
        obtain ⟨qn, rfl⟩ := Int.eq_ofNat_of_zero_le q0
        obtain ⟨k0, hk0⟩ : ∃ k0, sp[qn]? = some k0 := ⟨_, List.getElem?_eq_getElem (by omega)⟩
        obtain ⟨kl, z, hz, z3⟩ := sub k0 (List.mem_of_getElem? hk0)
        have eT6 := b6 _ _ Tc (s5 _ _ eT)
        have eW6 := b6 _ _ Wc (s5 _ _ eW)
        have zr := tr z (List.mem_of_getElem? hz)
        refine ⟨S, _, _, .int (k0 : Int), rfl, rfl, SqL.of (b6 _ _ Sc eS), atI_nat (nI_get hk0), ?_⟩
        dsimp only [gName, List.set]
        refine ⟨_, rfl, _, rfl, T, _, (k0 : Int), .int (z : Int), rfl, rfl, SqL.of eT6, atI_nat (nI_get hz), _, _, rfl, rfl, ?_⟩
        refine ⟨_, rfl, _, rfl, T, _, _, k0, rfl, rfl, eT6, ixN_nat (by rw [List.length_map]; omega), ?_⟩
        refine ⟨ts.set k0 (z + 1), _, _, _, _, _, _, rfl, ?_, ?_, (c6.upd Tc).mono (by omega), fun b o n e => ?_, by rw [List.length_set]; exact tl, fun x m => ?_, ?_⟩
        · rw [upd_same]
          exact congrArg (fun l => some (HO.lst l)) (nI_set ts k0 (z + 1)).symm
        · rw [upd_ne TW.symm]
          exact eW6
        · rw [upd_ne (ne_none e hT0)]
          exact b6 _ _ n (b5 _ _ n e)
        · rcases List.mem_or_eq_of_mem_set m with m | rfl
          · exact tr x m
          · omega
        · have := sum_set hz (z + 1)
          omega
      · obtain ⟨ts, o8, o9, o10, o11, o12, o13, rfl, eT, eW, cn, bn, tl, tr, tsum⟩ := hI
        exact aft _ _ ⟨ts, _, _, _, _, _, _, rfl, eT, eW, cn.mono (by omega), bn, tl, tr, by omega⟩
    rintro σ Hn ⟨ts, o8, o9, o10, o11, o12, o13, rfl, eT, eW, cn, bn, tl, tr, tsum⟩
    -- the draws
    dsimp only [tSeq]
    refine stJ (fun σ Hn => ∃ (ds : List Nat) (laid : Nat) (o8 o9 o10 o11 o12 o13 : Option V), σ = [some (.ref c), some (.int count), some (.int due), some (.int low), some (.int many), some (.ref T), some (.ref W), some (.int (laid : Int)), o8, o9, o10, o11, o12, o13] ∧ Hn T = some (.lst (nI ts)) ∧ Hn W = some (.lst (nI ds)) ∧ CR Hn c (bb + 202) ∧ Bt c H Hn ∧ ds.length = many ∧ (∀ x ∈ ds, 1 ≤ x ∧ x ≤ 3) ∧ ds.sum + laid = due) (fun D' aft => ?_) ?_
    · refine ⟨_, rfl, _, rfl, _, _, rfl, rfl, _, rfl, by omega, by omega, ?_⟩
      rw [show ((due : Int) - (many : Int)).toNat = due - many by omega]
      refine for_range (lo := 0) (n := due - many) (fun i σ Hn => ∃ (ds : List Nat) (laid : Nat) (o8 o9 o10 o11 o12 o13 : Option V), σ = [some (.ref c), some (.int count), some (.int due), some (.int low), some (.int many), some (.ref T), some (.ref W), some (.int (laid : Int)), o8, o9, o10, o11, o12, o13] ∧ Hn T = some (.lst (nI ts)) ∧ Hn W = some (.lst (nI ds)) ∧ CR Hn c (bb + 101 + i) ∧ Bt c H Hn ∧ ds.length = many ∧ (∀ x ∈ ds, 1 ≤ x ∧ x ≤ 3) ∧ ds.sum + laid = many + i)
        ⟨List.replicate many 1, 0, _, _, _, _, _, _, rfl, eT, eW, cn, bn, List.length_replicate, fun x m => by rw [List.eq_of_mem_replicate m]; omega, by rw [List.sum_replicate_nat]; omega⟩ (fun i σ Hn hi hI => ?_) (fun σ Hn hI => ?_)
      · obtain ⟨ds, laid, o8, o9, o10, o11, o12, o13, rfl, eT, eW, cn, bn, dl, dr, dsum⟩ := hI
        dsimp only [gName, List.set, tSeq]
        refine ⟨_, rfl, (many : Int), rfl, by omega, by omega, fun S nS => ?_⟩
        rw [Int.toNat_natCast]
        refine lcf_range (n := many) (fun k => decide ((ds[k]?).getD 0 < 3)) (fun k => .int (k : Int)) nS (by omega) (fun k H5 yes no hk s5 y n => ⟨rfl, ?_⟩) (fun H5 s5 eS => ?_)
        · obtain ⟨z, hz⟩ : ∃ z, ds[k]? = some z := ⟨_, List.getElem?_eq_getElem (by omega)⟩
          refine ⟨_, rfl, _, rfl, W, _, (k : Int), .int (z : Int), rfl, rfl, SqL.of (s5 _ _ eW), atI_nat (nI_get hz), _, _, rfl, rfl, _, rfl, ?_⟩
          by_cases q : z < 3
          · exact LK.ifT (decide_eq_true (by omega)) ⟨_, rfl, y (decide_eq_true (by rw [hz]; exact q)) _ (Same.refl _)⟩
          · exact LK.ifF (decide_eq_false (by omega)) (n (decide_eq_false (by rw [hz]; exact q)) _ (Same.refl _))
        have sub : ∀ k ∈ (List.range many).filter fun k => decide ((ds[k]?).getD 0 < 3), k < many ∧ ∃ z, ds[k]? = some z ∧ z < 3 := fun k hk => by
          obtain ⟨h1, h2⟩ := List.mem_filter.mp hk
          have h1 := List.mem_range.mp h1
          obtain ⟨z, hz⟩ : ∃ z, ds[k]? = some z := ⟨_, List.getElem?_eq_getElem (by omega)⟩
          have h2 := of_decide_eq_true h2
          rw [hz] at h2
          exact ⟨h1, z, hz, h2⟩
        have lle : ((List.range many).filter fun k => decide ((ds[k]?).getD 0 < 3)).length ≤ many := by
          have := List.length_filter_le (fun k => decide ((ds[k]?).getD 0 < 3)) (List.range many)
          rwa [List.length_range] at this
        have eS : H5 S = some (.lst (nI ((List.range many).filter fun k => decide ((ds[k]?).getD 0 < 3)))) := eS
        generalize ((List.range many).filter fun k => decide ((ds[k]?).getD 0 < 3)) = sp at eS sub lle
        have c5 := cn.same s5
        have b5 := bn.trans (Bt.of (c := c) s5)
        have Sc := cr_ne cn nS
        dsimp only [gName, List.set, tSeq]
        refine ⟨_, rfl, _, rfl, S, _, rfl, .inl (SqL.of eS), ?_⟩
        rw [List.length_map]
        refine ⟨_, _, rfl, rfl, c, sp.length + 1, _, rfl, by omega, by omega, c5, by omega, fun q H6 q0 q1 c6 b6 _ => ?_⟩
        obtain ⟨qn, rfl⟩ := Int.eq_ofNat_of_zero_le q0
        have eT6 := b6 _ _ Tc (s5 _ _ eT)
        have eW6 := b6 _ _ Wc (s5 _ _ eW)
        have eS6 := b6 _ _ Sc eS
        dsimp only [gName, List.set]
        refine ⟨_, rfl, _, rfl, S, _, rfl, .inl (SqL.of eS6), ?_⟩
        rw [List.length_map]
        refine ⟨_, _, rfl, rfl, _, rfl, ?_⟩
        by_cases ql : qn < sp.length
        · refine LK.ifT (decide_eq_true (by omega)) ?_
          obtain ⟨k0, hk0⟩ : ∃ k0, sp[qn]? = some k0 := ⟨_, List.getElem?_eq_getElem ql⟩
          obtain ⟨kl, z, hz, z3⟩ := sub k0 (List.mem_of_getElem? hk0)
          have zr := dr z (List.mem_of_getElem? hz)
          refine ⟨_, rfl, _, rfl, _, rfl, S, _, (qn : Int), .int (k0 : Int), rfl, rfl, SqL.of eS6, atI_nat (nI_get hk0), W, _, (k0 : Int), .int (z : Int), rfl, rfl, SqL.of eW6, atI_nat (nI_get hz), _, _, rfl, rfl, ?_⟩
          refine ⟨_, rfl, _, rfl, _, rfl, S, _, (qn : Int), .int (k0 : Int), rfl, rfl, SqL.of eS6, atI_nat (nI_get hk0), W, _, _, k0, rfl, rfl, eW6, ixN_nat (by rw [List.length_map]; omega), ?_⟩
          refine ⟨ds.set k0 (z + 1), laid, _, _, _, _, _, _, rfl, ?_, ?_, (c6.upd Wc).mono (by omega), fun b o n e => ?_, by rw [List.length_set]; exact dl, fun x m => ?_, ?_⟩
          · rw [upd_ne TW]
            exact eT6
          · rw [upd_same]
            exact congrArg (fun l => some (HO.lst l)) (nI_set ds k0 (z + 1)).symm
          · rw [upd_ne (ne_none e hW0)]
            exact b6 _ _ n (b5 _ _ n e)
          · rcases List.mem_or_eq_of_mem_set m with m | rfl
            · exact dr x m
            · omega
          · have := sum_set hz (z + 1)
            omega
        · refine LK.ifF (decide_eq_false (by omega)) ?_
          refine ⟨_, rfl, _, _, rfl, rfl, ds, laid + 1, _, _, _, _, _, _, rfl, eT6, eW6, c6.mono (by omega), b5.trans b6, dl, dr, by omega⟩
      · obtain ⟨ds, laid, o8, o9, o10, o11, o12, o13, rfl, eT, eW, cn, bn, dl, dr, dsum⟩ := hI
        exact aft _ _ ⟨ds, laid, _, _, _, _, _, _, rfl, eT, eW, cn.mono (by omega), bn, dl, dr, by omega⟩
    clear bn cn eW eT cr4 b4 eT4 eW4
    rintro σ Hn ⟨ds, laid, o8, o9, o10, o11, o12, o13, rfl, eT, eW, cn, bn, dl, dr, dsum⟩
    -- found
    dsimp only [tSeq]
    refine ⟨_, rfl, (many : Int), rfl, by omega, by omega, fun D nD => ?_⟩
    rw [Int.toNat_natCast]
    obtain ⟨hD0, Dc⟩ := toH bn cn nD
    refine lc_range (lo := 0) (n := many) (fun j H' => ∃ xs : List V, H' D = some (.lst xs) ∧ DpAll K H' xs (((ts.zip ds).take j).map stD) ∧ Same Hn H') ⟨[], upd_same, .nil, same_new nD⟩ (fun j H' hj hh => ⟨rfl, ?_⟩) (fun H' hh => ?_)
    · obtain ⟨xs, eD, dx, sx⟩ := hh
      obtain ⟨z, hz⟩ : ∃ z, ts[j]? = some z := ⟨_, List.getElem?_eq_getElem (by omega)⟩
      obtain ⟨y, hy⟩ : ∃ y, ds[j]? = some y := ⟨_, List.getElem?_eq_getElem (by omega)⟩
      rw [Int.zero_add]
      refine ⟨_, rfl, _, rfl, T, _, (j : Int), .int (z : Int), rfl, rfl, SqL.of (sx _ _ eT), atI_nat (nI_get hz), _, rfl, _, rfl, W, _, (j : Int), .int (y : Int), rfl, rfl, SqL.of (sx _ _ eW), atI_nat (nI_get hy), by show 2 ≤ sizeLine; decide, fun q nq => ?_⟩
      have tq := same_new (o := .tup [.int (z : Int), .int (y : Int)]) nq
      have xl := dps_len dx
      rw [List.length_map, List.length_take] at xl
      refine ⟨xs, tq _ _ eD, by omega, xs ++ [.ref q], upd_same, ?_, same_newU (sx.trans tq) nD⟩
      have tk : (ts.zip ds).take (j + 1) = (ts.zip ds).take j ++ [(z, y)] := by
        rw [List.take_add_one, (List.getElem?_zip_eq_some (z := (z, y))).mpr ⟨hz, hy⟩]
        rfl
      rw [tk, List.map_append]
      exact dps_tl (Tl.own (tq _ _ eD)) (by rw [← List.map_append]; exact noLs_sts _) (dps_app (dps_same tq dx) (.cons (.tup (SqT.of upd_same) (.cons (.int _) (.cons (.int _) .nil))) .nil))
    obtain ⟨xs, eD, dx, sx⟩ := hh
    have zl : (ts.zip ds).length = many := by rw [List.length_zip]; omega
    rw [List.take_of_length_le (by omega)] at dx
    have ok0 : ∀ s ∈ ts.zip ds, s.1 ≤ 3 ∧ 1 ≤ s.2 ∧ s.2 ≤ 3 := fun s m => by
      have m1 := tr s.1 (List.of_mem_zip m).1
      have m2 := dr s.2 (List.of_mem_zip m).2
      omega
    have tk0 : tks (ts.zip ds) = count := by
      unfold tks
      rw [show (fun s : Nat × Nat => s.1) = Prod.fst from rfl, List.map_fst_zip (by omega)]
      exact tsum
    have dr0 : drs (ts.zip ds) + laid = due := by
      unfold drs
      rw [show (fun s : Nat × Nat => s.2) = Prod.snd from rfl, List.map_snd_zip (by omega)]
      exact dsum
    generalize ts.zip ds = s0 at dx zl ok0 tk0 dr0
    have c6 := cn.same sx
    have b6 := bn.trans (Bt.of (c := c) sx)
    clear cn bn sx eT eW dsum dl dr tsum tl tr nD
    dsimp only [gName, List.set, tSeq]
    refine stJ (fun σ Hn => ∃ (F : Addr) (xs : List V) (ss : List Sti) (o7 o8 o9 o10 o12 o13 : Option V), σ = [some (.ref c), some (.int count), some (.int due), some (.int low), some (.int many), some (.ref T), some (.ref W), o7, o8, o9, o10, some (.ref F), o12, o13] ∧ Hn F = some (.lst xs) ∧ DpAll K Hn xs (ss.map stD) ∧ CR Hn c (bb + 700) ∧ Bt c H Hn ∧ (∀ s ∈ ss, s.1 ≤ 3 ∧ 1 ≤ s.2 ∧ s.2 ≤ 3) ∧ tks ss = count ∧ drs ss = due ∧ F ≠ c) (fun D' aft => ?_) ?_
    · refine ⟨_, rfl, (laid : Int), rfl, by omega, by omega, ?_⟩
      rw [Int.toNat_natCast]
      refine for_range (lo := 0) (n := laid) (fun i σ Hn => ∃ (F : Addr) (xs : List V) (ss : List Sti) (lf : Nat) (o8 o9 o10 o12 o13 : Option V), σ = [some (.ref c), some (.int count), some (.int due), some (.int low), some (.int many), some (.ref T), some (.ref W), some (.int (lf : Int)), o8, o9, o10, some (.ref F), o12, o13] ∧ Hn F = some (.lst xs) ∧ DpAll K Hn xs (ss.map stD) ∧ CR Hn c (bb + 202 + 2 * i) ∧ Bt c H Hn ∧ (∀ s ∈ ss, s.1 ≤ 3 ∧ 1 ≤ s.2 ∧ s.2 ≤ 3) ∧ tks ss = count ∧ drs ss + lf = due ∧ lf + i ≤ laid ∧ ss.length ≤ many + i ∧ F ≠ c)
        ⟨D, xs, s0, laid, _, _, _, _, _, rfl, eD, dx, c6, b6, ok0, tk0, dr0, by omega, by omega, Dc⟩ (fun i σ Hn hi hI => ?_) (fun σ Hn hI => ?_)
      · obtain ⟨F, xs, ss, lf, o8, o9, o10, o12, o13, rfl, eF, dx, cn, bn, ok, tk, dr, li, sl, Fc⟩ := hI
        have xl := dps_len dx
        rw [List.length_map] at xl
        dsimp only [gName, List.set, tSeq]
        refine ⟨_, rfl, _, rfl, F, _, rfl, .inl (SqL.of eF), _, _, rfl, rfl, c, xs.length + 1, _, rfl, by omega, by omega, cn, by omega, fun q H7 q0 q1 c7 b7 _ => ?_⟩
        obtain ⟨qn, rfl⟩ := Int.eq_ofNat_of_zero_le q0
        refine ⟨_, rfl, _, rfl, c, 3, _, rfl, by decide, by decide, c7, by omega, fun r H8 r0 r1 c8 b8 _ => ⟨_, _, rfl, rfl, _, _, rfl, _, _, rfl, ?_⟩⟩
        obtain ⟨rn, rfl⟩ := Int.eq_ofNat_of_zero_le r0
        obtain ⟨so, hso, so1, so2⟩ : ∃ so : Nat, (if (1 : Int) + (rn : Int) < (lf : Int) then (1 : Int) + (rn : Int) else (lf : Int)) = (so : Int) ∧ so ≤ lf ∧ so ≤ 3 ∧ (lf > 0 → so > 0) := by
          split
          · exact ⟨1 + rn, by omega, by omega, by omega, by omega⟩
          · exact ⟨lf, by omega, by omega, by omega, by omega⟩
        dsimp only [gName, List.set]
        rw [hso]
        have b78 := b7.trans b8
        have eF8 := b78 _ _ Fc eF
        have dx8 := dps_tl (Tl.bt cn b78) (noLs_sts ss) dx
        refine ⟨_, rfl, _, _, rfl, rfl, _, rfl, ?_⟩
        by_cases sz : 0 < so
        · refine LK.ifT (decide_eq_true (by omega)) ?_
          refine ⟨_, rfl, _, rfl, _, rfl, F, _, rfl, SqL.of eF8, fun A nA => ?_⟩
          rw [cut_to]
          have tA := same_new (o := .lst (xs.take qn)) nA
          have eA := upd_same (H := H8) (a := A) (o := .lst (xs.take qn))
          generalize upd H8 A (.lst (xs.take qn)) = H9 at tA eA
          refine ⟨_, rfl, by show 2 ≤ sizeLine; decide, fun w nw => ⟨by show 1 ≤ sizeLine; decide, fun M nM => ?_⟩⟩
          have tw := same_new (o := .tup [.int 0, .int (so : Int)]) nw
          have ew := upd_same (H := H9) (a := w) (o := .tup [.int 0, .int (so : Int)])
          change upd H9 w (.tup [.int 0, .int (so : Int)]) M = none at nM
          have tM := tw.trans (same_new (o := .lst [.ref w]) nM)
          have eM := upd_same (H := upd H9 w (.tup [.int 0, .int (so : Int)])) (a := M) (o := .lst [.ref w])
          have ew2 := same_new (o := .lst [.ref w]) nM _ _ ew
          have lA : (xs.take qn).length ≤ 300 := by rw [List.length_take]; omega
          refine ⟨A, M, _, _, rfl, rfl, tM _ _ eA, eM, by simp only [List.length_singleton]; omega, fun Z nZ => ?_⟩
          have tZ := tM.trans (same_new (o := .lst (xs.take qn ++ [.ref w])) nZ)
          have eZ := upd_same (H := upd (upd H9 w (.tup [.int 0, .int (so : Int)])) M (.lst [.ref w])) (a := Z) (o := .lst (xs.take qn ++ [.ref w]))
          have ew3 := same_new (o := .lst (xs.take qn ++ [.ref w])) nZ _ _ ew2
          generalize upd (upd (upd H9 w (.tup [.int 0, .int (so : Int)])) M (.lst [.ref w])) Z (.lst (xs.take qn ++ [.ref w])) = H10 at tZ eZ ew3
          have t810 := tA.trans tZ
          refine ⟨_, rfl, _, rfl, _, rfl, F, _, rfl, SqL.of (t810 _ _ eF8), fun B nB => ?_⟩
          rw [cut_drop]
          have tB := same_new (o := .lst (xs.drop qn)) nB
          have eB := upd_same (H := H10) (a := B) (o := .lst (xs.drop qn))
          generalize upd H10 B (.lst (xs.drop qn)) = H11 at tB eB
          have lB : (xs.drop qn).length ≤ 300 := by rw [List.length_drop]; omega
          refine ⟨Z, B, _, _, rfl, rfl, tB _ _ eZ, eB, by simp only [List.length_append, List.length_singleton]; omega, fun Y nY => ?_⟩
          have tY := same_new (o := .lst (xs.take qn ++ [.ref w] ++ xs.drop qn)) nY
          have s811 := (t810.trans tB).trans tY
          have c11 := (c8.same (t810.trans tB))
          refine ⟨_, rfl, _, rfl, _, _, rfl, rfl, _, _, rfl, Y, _, ss.take qn ++ [(0, so)] ++ ss.drop qn, lf - so, some (.int (0 + (i : Int))), o9, some (.int (qn : Int)), some (.int (so : Int)), o13, ?_, upd_same, ?_, (c11.same tY).mono (by omega), bn.trans (b78.trans (Bt.of s811)), ?_, ?_, ?_, by omega, ?_, cr_ne c11 nY⟩
          · dsimp only [List.set]
            rw [show ((lf : Int) - (so : Int)) = ((lf - so : Nat) : Int) by omega]
          · rw [List.map_append, List.map_append, List.map_take, List.map_drop]
            exact dps_app (dps_app (dps_take _ (dps_same s811 dx8)) (.cons (.tup (SqT.of (tY _ _ (tB _ _ ew3))) (.cons (.int _) (.cons (.int _) .nil))) .nil)) (dps_drop _ (dps_same s811 dx8))
          · intro s m
            rcases List.mem_append.mp m with m | m
            · rcases List.mem_append.mp m with m | m
              · exact ok s (List.mem_of_mem_take m)
              · rw [List.mem_singleton.mp m]
                exact ⟨by show 0 ≤ 3; decide, sz, so2.1⟩
            · exact ok s (List.mem_of_mem_drop m)
          · rw [tks_app, tks_app, ← tk]
            conv => rhs; rw [← List.take_append_drop qn ss, tks_app]
            show _ + 0 + _ = _
            omega
          · have e1 : drs ss = drs (ss.take qn) + drs (ss.drop qn) := by rw [← drs_app, List.take_append_drop]
            rw [drs_app, drs_app]
            have e2 : drs [(0, so)] = so := by show so + 0 = so; omega
            omega
          · simp only [List.length_append, List.length_take, List.length_drop, List.length_singleton]
            omega
        · refine LK.ifF (decide_eq_false (by omega)) ⟨F, xs, ss, lf, _, _, _, _, _, rfl, eF8, dx8, c8.mono (by omega), bn.trans b78, ok, tk, dr, by omega, by omega, Fc⟩
      · obtain ⟨F, xs, ss, lf, o8, o9, o10, o12, o13, rfl, eF, dx, cn, bn, ok, tk, dr, li, sl, Fc⟩ := hI
        exact aft _ _ ⟨F, xs, ss, _, _, _, _, _, _, rfl, eF, dx, cn.mono (by omega), bn, ok, tk, by omega, Fc⟩
    rintro σ Hn ⟨F, xs, ss, o7, o8, o9, o10, o12, o13, rfl, eF, dx, cn, bn, ok, tk, dr, Fc⟩
    refine ⟨_, rfl, F, _, rfl, .inl ⟨SqL.of eF, fun q nq => ?_⟩⟩
    exact k q _ xs ss ((cn.same (same_new nq)).mono (by omega)) (bn.trans (Bt.of (same_new nq))) upd_same (dps_same (same_new nq) dx) ⟨tk, dr, ok⟩
end
end T6
/-! _law_plan -/
namespace T6
open PySem PySem.Spec PyProof.Rows L2 LK MY MZ
theorem cnts_app (c : Nat) (rs : List Rw) (r : Rw) : cnts c (rs ++ [r]) = cnts c rs ++ [drs r.sts] := by
  unfold cnts
  rw [List.map_append]
  rfl
/-- a drawn chart: its width and its rows -/
structure Plan (K : PySem.W.Frag) (H : Hp) (t Ld : Addr) (xs : List V) (size : Nat) (rs : List Rw) : Prop where
  et : H t = some (.tup [.int size, .ref Ld])
  eL : H Ld = some (.lst xs)
  dL : DpAll K H xs (rs.map rwD)
  rows : Rows size rs size
def spPln (K : PySem.W.Frag) : Sp := fun vs H Q _ => ∃ (c : Addr) (most rm B : Nat), vs = [.ref c, .int most, .int rm] ∧ 1 ≤ most ∧ most ≤ 30 ∧ 1 ≤ rm ∧ rm ≤ 30 ∧ CR H c B ∧ B + 40000 < 10 ^ 12 ∧
  ∀ (t Ld : Addr) (H' : Hp) (xs : List V) (size : Nat) (rs : List Rw), CR H' c (B + 40000) → Bt c H H' → Plan K H' t Ld xs size rs → (∀ x ∈ cnts size rs, 1 ≤ x ∧ x ≤ most) → 1 ≤ rs.length → rs.length ≤ rm → H Ld = none → Ld ≠ c → Q (.ref t) H'
section
variable {P : Program} {w : World} {K : PySem.W.Frag} {mg : Str → Option Value} {base : Heap}
abbrev sPln : Stmt := top 40
theorem scPln : FnScope ["creel", "most", "rows_most", "size", "lines", "yarns", "count", "high", "turn", "low", "due"] ["creel", "most", "rows_most"] (defScope sPln) := ⟨rfl, rfl, rfl, by decide +kernel, rfl, by decide +kernel, by decide +kernel⟩
theorem ok_Pln {f : Addr} {fd : FuncData} (F : Fun K "_law_plan" "_law_plan" sPln f fd) (B : Bl mg)
    {f__law_ply : Addr} {d__law_ply : FuncData} (G__law_ply : FnOk P w K mg base CX0 1 f__law_ply d__law_ply ["creel", "span"] spPly) (g__law_ply : mg "_law_ply" = some (.ref f__law_ply)) (k__law_ply : PySem.W.keepIn K (.ref f__law_ply) = true) (b__law_ply : Binds K d__law_ply ["creel", "span"] [])
    {f__law_yarns : Addr} {d__law_yarns : FuncData} (G__law_yarns : FnOk P w K mg base CX0 2 f__law_yarns d__law_yarns ["creel", "many"] spYarns) (g__law_yarns : mg "_law_yarns" = some (.ref f__law_yarns)) (k__law_yarns : PySem.W.keepIn K (.ref f__law_yarns) = true) (b__law_yarns : Binds K d__law_yarns ["creel", "many"] [])
    {f__law_stitches : Addr} {d__law_stitches : FuncData} (G__law_stitches : FnOk P w K mg base CX0 2 f__law_stitches d__law_stitches ["creel", "count", "due"] (spStc K)) (g__law_stitches : mg "_law_stitches" = some (.ref f__law_stitches)) (k__law_stitches : PySem.W.keepIn K (.ref f__law_stitches) = true) (b__law_stitches : Binds K d__law_stitches ["creel", "count", "due"] []) : FnOk P w K mg base CX0 3 f fd ["creel", "most", "rows_most"] (spPln K) := by
  refine F.ok scPln (fun vs H Q E h => ?_) (fun cdv A outer s H vs Q E hr h => ?_)
  · obtain ⟨c, most, rm, _, rfl, _⟩ := h
    rfl
  · obtain ⟨c, most, rm, bb, rfl, m1, m30, r1, r30, hc, hB, k⟩ := h
    refine ⟨_, pss_cons (ps_par3 (i := 3) (j := 4) (l := 5) rfl scPln.nd rfl rfl rfl (by decide) (by decide) (by decide) rfl rfl rfl (pa_cons (pe_op op_add pe_int (pe_call (E := E0) G__law_ply (hr.mono (by decide)) rfl g__law_ply k__law_ply b__law_ply .nil pass0 (pa_cons (pv 0) (pa_cons (pv 1) pa_nil)))) (pa_cons (pe_lst pa_nil) (pa_cons (pe_call (E := E0) G__law_yarns (hr.mono (by decide)) rfl g__law_yarns k__law_yarns b__law_yarns .nil pass0 (pa_cons (pv 0) (pa_cons pe_int pa_nil))) pa_nil))) (by rfl))
      (pss_cons (ps_par (i := 6) (j := 7) rfl scPln.nd rfl rfl (by decide) rfl rfl (pa_cons (pv 3) (pa_cons (pe_op op_add pe_int (pe_call (E := E0) G__law_ply (hr.mono (by decide)) rfl g__law_ply k__law_ply b__law_ply .nil pass0 (pa_cons (pv 0) (pa_cons (pv 2) pa_nil)))) pa_nil)) (by rfl))
      (pss_cons (ps_for PassesOwn.never rfl (pi_range1 (by rfl) (B "range" (by decide)) (pa_cons (pv 7) pa_nil)) (pg_name (i := 8) scPln.nd rfl (Or.inl rfl)) (pss_cons (ps_set (i := 9) scPln.nd rfl (Or.inl rfl) (pe_op op_fdivW (pe_op op_add (pv 6) pe_int) pe_int))
      (pss_cons (ps_set (i := 10) scPln.nd rfl (Or.inl rfl) (pe_op op_add (pv 9) (pe_call (E := E0) G__law_ply (hr.mono (by decide)) rfl g__law_ply k__law_ply b__law_ply .nil pass0 (pa_cons (pv 0) (pa_cons (pe_op op_add (pe_op op_sub (pe_callB (call_min2 rfl) (by rfl) (B "min" (by decide)) (by decide +kernel) (pa_cons (pv 1) (pa_cons (pe_op op_mul pe_int (pv 3)) pa_nil))) (pv 9)) pe_int) pa_nil)))))
      (pss_cons (ps_if (pt_cmpR op_eq (pv 8) (pe_op op_sub (pv 7) pe_int) (nomark _)) (pss_one (ps_set (i := 10) scPln.nd rfl (Or.inl rfl) (pv 3))) pss_nil)
      (pss_cons (ps_expr (pe_bm PySem.F.plainAttrs_list PySem.F.slot_list_append PySem.F.type_list_append mt_append (pv 4) (pa_cons (pe_tup (pa_cons (pe_ix ix_list (pv 5) (pe_call (E := E0) G__law_ply (hr.mono (by decide)) rfl g__law_ply k__law_ply b__law_ply .nil pass0 (pa_cons (pv 0) (pa_cons pe_int pa_nil))) (fun _ _ => rfl)) (pa_cons (pe_call (E := E0) G__law_ply (hr.mono (by decide)) rfl g__law_ply k__law_ply b__law_ply .nil pass0 (pa_cons (pv 0) (pa_cons (pv 6) pa_nil))) (pa_cons (pe_call (E := E0) G__law_stitches (hr.mono (by decide)) rfl g__law_stitches k__law_stitches b__law_stitches .nil pass0 (pa_cons (pv 0) (pa_cons (pv 6) (pa_cons (pv 10) pa_nil)))) pa_nil)))) pa_nil)))
      (pss_one (ps_set (i := 6) scPln.nd rfl (Or.inl rfl) (pv 10))))))))
      (pss_one (ps_ret (pe_tup (pa_cons (pv 3) (pa_cons (pv 4) pa_nil))))))), ?_⟩
    have ty2 : sizeLine = 16777216 := sizeLine_eq
    refine ⟨_, rfl, _, rfl, c, most, bb, rfl, by omega, by omega, hc, by omega, fun d H1 d0 d1 cr1 b1 _ => ⟨_, _, rfl, rfl, ?_⟩⟩
    obtain ⟨sn, rfl⟩ := Int.eq_ofNat_of_zero_le d0
    obtain ⟨size, hsz⟩ : ∃ size : Nat, 1 + sn = size := ⟨_, rfl⟩
    refine ⟨by show 0 ≤ sizeLine; decide, fun Ld nL => ?_⟩
    have tL := same_new (o := .lst []) nL
    have eL := upd_same (H := H1) (a := Ld) (o := .lst [])
    have Lc := cr_ne cr1 nL
    have nL0 : H Ld = none := by
      cases e : H Ld with
      | none => rfl
      | some o =>
        have := b1 _ _ Lc e
        rw [nL] at this
        cases this
    generalize upd H1 Ld (.lst []) = H2 at tL eL
    have cr2 := cr1.same tL
    refine ⟨_, rfl, c, 2, _, rfl, by omega, cr2, by omega, fun Y H3 ys nY cr3 b3 eY yl yn => ?_⟩
    have Yc := cr_ne cr2 nY
    have YL : Ld ≠ Y := ne_none eL nY
    refine ⟨_, _, _, rfl, ?_⟩
    change Ys H3 Y ys at eY
    have eY4 := eY
    have eL4 := b3 _ _ Lc eL
    have cr4 := cr3
    have b4 := b1.trans ((Bt.of (c := c) tL).trans b3)
    dsimp only [gName, gCons, gNil, List.set]
    rw [show (1 : Int) + (sn : Int) = (size : Int) by omega]
    have s1 : 1 ≤ size := by omega
    have sm : size ≤ most := by omega
    clear eY eL tL hsz d0 d1 b3 cr3 cr2 b1 cr1 nL nY
    -- count, high
    dsimp only [tSeq]
    refine ⟨_, rfl, _, rfl, _, rfl, c, rm, _, rfl, by omega, by omega, cr4, by omega, fun d H5 d0 d1 cr5 b5 _ => ⟨_, _, rfl, rfl, _, _, rfl, ?_⟩⟩
    obtain ⟨hn, rfl⟩ := Int.eq_ofNat_of_zero_le d0
    obtain ⟨high, hhi⟩ : ∃ high : Nat, 1 + hn = high := ⟨_, rfl⟩
    have eY5 := b5 _ _ Yc eY4
    have eL5 := b5 _ _ Lc eL4
    have b05 := b4.trans b5
    dsimp only [gName, List.set, tSeq]
    rw [show (1 : Int) + (hn : Int) = (high : Int) by omega]
    have h1 : 1 ≤ high := by omega
    have hm : high ≤ rm := by omega
    clear hhi d0 d1 b5 b4 cr4 eY4 eL4
    refine ⟨_, rfl, (high : Int), rfl, by omega, by omega, ?_⟩
    rw [Int.toNat_natCast]
    refine for_range (lo := 0) (n := high) (fun i σ Hn => ∃ (xs : List V) (rs : List Rw) (count : Nat) (o8 o9 o10 : Option V), σ = [some (.ref c), some (.int most), some (.int rm), some (.int size), some (.ref Ld), some (.ref Y), some (.int count), some (.int high), o8, o9, o10] ∧ Hn Ld = some (.lst xs) ∧ Ys Hn Y ys ∧ DpAll K Hn xs (rs.map rwD) ∧ Rows size rs count ∧ rs.length = i ∧ (∀ x ∈ cnts size rs, 1 ≤ x ∧ x ≤ most) ∧ 1 ≤ count ∧ count ≤ most ∧ count ≤ 3 * size ∧ (i = high → count = size) ∧ CR Hn c (bb + 1010 + 1010 * i) ∧ Bt c H Hn)
      ⟨[], [], size, _, _, _, rfl, eL5, eY5, .nil, rfl, rfl, fun x m => by rw [List.mem_singleton.mp m]; exact ⟨s1, sm⟩, s1, sm, by omega, fun _ => rfl, cr5.mono (by omega), b05⟩ (fun i σ Hn hi hI => ?_) (fun σ Hn hI => ?_)
    · obtain ⟨xs, rs, count, o8, o9, o10, rfl, eL, eY, dx, rr, rl, cc, n1, n2, n3, n4, cn, bn⟩ := hI
      have xl := dps_len dx
      rw [List.length_map] at xl
      dsimp only [gName, List.set, tSeq]
      refine ⟨_, rfl, _, _, rfl, rfl, _, _, rfl, rfl, wide_div (b := 2) (by decide) (by decide) (by decide) (by decide), ?_⟩
      dsimp only
      rw [show ((count : Int) + 2) / 3 = (((count + 2) / 3 : Nat) : Int) by omega]
      obtain ⟨low, hlow⟩ : ∃ low, (count + 2) / 3 = low := ⟨_, rfl⟩
      rw [hlow]
      dsimp only [gName, List.set]
      refine ⟨_, rfl, _, rfl, _, rfl, _, rfl, _, _, rfl, rfl, .inl ⟨by decide, by decide⟩, _, _, rfl, ?_⟩
      dsimp only
      have mn : (if 3 * (size : Int) < (most : Int) then 3 * (size : Int) else (most : Int)) = ((min most (3 * size) : Nat) : Int) := by
        split <;> omega
      rw [mn]
      refine ⟨_, rfl, _, _, rfl, rfl, _, _, rfl, rfl, c, _, _, rfl, by omega, by omega, cn, by omega, fun d H6 d0 d1 cr6 b6 _ => ⟨_, _, rfl, rfl, ?_⟩⟩
      obtain ⟨dn, rfl⟩ := Int.eq_ofNat_of_zero_le d0
      dsimp only [gName, List.set]
      rw [show (low : Int) + (dn : Int) = ((low + dn : Nat) : Int) by omega]
      have eL6 := b6 _ _ Lc eL
      have eY6 := b6 _ _ Yc eY
      have dx6 := dps_tl (Tl.bt cn b6) (noLs_rws rs) dx
      have bn6 := bn.trans b6
      dsimp only [tSeq]
      -- the due one
      refine stJ (fun σ Hm => ∃ due : Nat, σ = [some (.ref c), some (.int most), some (.int rm), some (.int size), some (.ref Ld), some (.ref Y), some (.int count), some (.int high), some (.int (0 + (i : Int))), some (.int low), some (.int due)] ∧ Hm = H6 ∧ 1 ≤ due ∧ due ≤ most ∧ due ≤ 3 * size ∧ low ≤ due ∧ (i + 1 = high → due = size)) (fun D' aft => ?_) ?_
      · refine ⟨_, rfl, _, rfl, _, _, rfl, rfl, rfl, _, rfl, ?_⟩
        by_cases q : i + 1 = high
        · refine LK.ifT (decide_eq_true (congrArg V.int (by omega))) ?_
          exact ⟨_, rfl, aft _ _ ⟨size, rfl, rfl, s1, sm, by omega, by omega, fun _ => rfl⟩⟩
        · refine LK.ifF (decide_eq_false fun e => q (by have := V.int.inj e; omega)) ?_
          exact aft _ _ ⟨low + dn, rfl, rfl, by omega, by omega, by omega, by omega, fun z => absurd z q⟩
      rintro σ Hm ⟨due, rfl, rfl, u1, u2, u3, u4, u5⟩
      dsimp only [tSeq]
      refine ⟨_, rfl, .inl ⟨rfl, _, SqL.of eL6⟩, ?_⟩
      refine ⟨_, rfl, _, rfl, c, 2, _, rfl, by decide, by decide, cr6, by omega, fun q H7 q0 q1 cr7 b7 _ => ?_⟩
      obtain ⟨qn, rfl⟩ := Int.eq_ofNat_of_zero_le q0
      obtain ⟨y, hy⟩ : ∃ y, ys[qn]? = some y := ⟨_, List.getElem?_eq_getElem (by omega)⟩
      have eY7 := b7 _ _ Yc eY6
      change H7 Y = some (.lst (ys.map V.str)) at eY7
      refine ⟨Y, _, _, .str y, rfl, rfl, SqL.of eY7, atI_nat (by rw [List.getElem?_map, hy]; rfl), ?_⟩
      refine ⟨_, rfl, _, rfl, c, count, _, rfl, by omega, by omega, cr7, by omega, fun o H8 o0 o1 cr8 b8 _ => ?_⟩
      obtain ⟨on, rfl⟩ := Int.eq_ofNat_of_zero_le o0
      refine ⟨_, rfl, _, rfl, _, rfl, c, count, due, _, rfl, n1, by omega, u1, by omega, by omega, cr8, by omega, fun w H9 ws ss cr9 b9 ew dw okw => ?_⟩
      have b79 := (b7.trans b8).trans b9
      refine ⟨by show 3 ≤ sizeLine; decide, fun v nv => ?_⟩
      have tv := same_new (o := .tup [.str y, .int (on : Int), .ref w]) nv
      have eL9 := tv _ _ (b79 _ _ Lc eL6)
      have dx9 := dps_same tv (dps_tl (Tl.bt cr6 b79) (noLs_rws rs) dx6)
      refine ⟨Ld, _, _, rfl, rfl, eL9, by omega, ?_⟩
      have ok : OkRow count ⟨y, on, ss⟩ := ⟨yn y (List.mem_of_getElem? hy), by show on < count; omega, ⟨okw.tk, rfl, okw.ok⟩⟩
      refine ⟨_, rfl, xs ++ [.ref v], rs ++ [⟨y, on, ss⟩], due, _, _, _, rfl, upd_same, ?_, ?_, rows_app (qs := [⟨y, on, ss⟩]) rr ⟨ok, okw.dr⟩, by rw [List.length_append, rl]; rfl, fun x m => ?_, u1, u2, u3, u5, ((cr9.same tv).upd Lc).mono (by omega), fun b o n e => ?_⟩
      · unfold Ys
        rw [upd_ne (Ne.symm YL)]
        exact tv _ _ (b9 _ _ Yc (b8 _ _ Yc eY7))
      · rw [List.map_append]
        refine dps_tl (Tl.own eL9) (by rw [← List.map_append]; exact noLs_rws _) (dps_app dx9 (.cons (.tup (SqT.of upd_same) (.cons (.str _) (.cons (.int _) (.cons (.tup (SqT.of (tv _ _ ew)) (dps_same tv dw)) .nil)))) .nil))
      · rw [cnts_app] at m
        rcases List.mem_append.mp m with m | m
        · exact cc x m
        · rw [List.mem_singleton.mp m]
          show 1 ≤ drs ss ∧ drs ss ≤ most
          rw [okw.dr]
          exact ⟨u1, u2⟩
      · rw [upd_ne (ne_none e nL0)]
        exact tv _ _ (b79 _ _ n (bn6 _ _ n e))
    · obtain ⟨xs, rs, count, o8, o9, o10, rfl, eL, eY, dx, rr, rl, cc, n1, n2, n3, n4, cn, bn⟩ := hI
      obtain rfl := n4 rfl
      refine ⟨_, rfl, _, rfl, by show 2 ≤ sizeLine; decide, fun q nq => ?_⟩
      have tq := same_new (o := .tup [.int (count : Int), .ref Ld]) nq
      exact k q Ld _ xs count rs ((cn.same tq).mono (by omega)) (bn.trans (Bt.of tq)) ⟨upd_same, tq _ _ eL, dps_same tq dx, rr⟩ cc (by omega) (by omega) nL0 Lc
end
end T6
/-! stitches and rows -/
namespace T6
open PySem PySem.Spec PyProof.Rows L2 LK MY MZ
theorem yn_thr {y : Str} (h : Yn y) : isThrD (.str y) = true := by
  obtain ⟨y1, y2, y3⟩ := h
  show (decide (1 ≤ y.length ∧ y.length ≤ 8) && y.cps.toList.all fun c => decide (97 ≤ c ∧ c ≤ 122)) = true
  rw [decide_eq_true ⟨y1, y2⟩, Bool.true_and, List.all_eq_true]
  exact fun c hc => decide_eq_true (y3 c hc)
theorem yn_lay {y : Str} (h : Yn y) : (PyData.str y).canLay0 = true := by
  show y.cps.all (· < 0x110000) = true
  rw [Array.all_eq_true_iff_forall_mem]
  intro c hc
  have := (h.2.2 c (Array.mem_toList_iff.mpr hc)).2
  exact decide_eq_true (by omega)
theorem st_tup {K : PySem.W.Frag} {H : Hp} {v : V} {s : Sti} (h : Dp K H v (stD s)) : ∃ a, v = .ref a ∧ SqT K H a [.int (s.1 : Int), .int (s.2 : Int)] := by
  cases h with
  | tup q r =>
    obtain rfl := ints_back (ns := [(s.1 : Int), (s.2 : Int)]) r
    exact ⟨_, rfl, q⟩
theorem sum_tks : ∀ ss : List Sti, (ss.map fun s => (s.1 : Int)).sum = ((tks ss : Nat) : Int)
  | [] => rfl
  | s :: r => by
    have := sum_tks r
    unfold tks at this ⊢
    rw [List.map_cons, List.sum_cons, List.map_cons, List.sum_cons, this]
    omega
theorem sum_drs : ∀ ss : List Sti, (ss.map fun s => (s.2 : Int)).sum = ((drs ss : Nat) : Int)
  | [] => rfl
  | s :: r => by
    have := sum_drs r
    unfold drs at this ⊢
    rw [List.map_cons, List.sum_cons, List.map_cons, List.sum_cons, this]
    omega
/-- a right stitch -/
def spIst (K : PySem.W.Frag) : Sp := fun vs H Q _ => ∃ (v : V) (s : Sti), vs = [v] ∧ Dp K H v (stD s) ∧ s.1 ≤ 3 ∧ 1 ≤ s.2 ∧ s.2 ≤ 3 ∧ ∀ H', Same H H' → Q (.bl true) H'
/-- a right row -/
def spIcr (K : PySem.W.Frag) : Sp := fun vs H Q _ => ∃ (v : V) (c : Nat) (r : Rw), vs = [v, .int c] ∧ Dp K H v (rwD r) ∧ OkRow c r ∧ r.sts.length ≤ 1000 ∧ ∀ H', Same H H' → Q (.bl true) H'
section
variable {P : Program} {w : World} {K : PySem.W.Frag} {mg : Str → Option Value} {base : Heap}
abbrev sIst : Stmt := top 26
theorem scIst : FnScope ["value", "part"] ["value"] (defScope sIst) := ⟨rfl, rfl, rfl, by decide +kernel, rfl, by decide +kernel, by decide +kernel⟩
theorem ok_Ist {f : Addr} {fd : FuncData} (F : Fun K "is_stitch" "is_stitch" sIst f fd) (B : Bl mg) {tM : Tok} (g_MOST_IN_STITCH : mg "MOST_IN_STITCH" = some (.int 3 tM))
    {f_is_number : Addr} {d_is_number : FuncData} (G_is_number : FnOk P w K mg base CX0 2 f_is_number d_is_number ["value", "many"] (spNum K)) (g_is_number : mg "is_number" = some (.ref f_is_number)) (k_is_number : PySem.W.keepIn K (.ref f_is_number) = true) (b_is_number : Binds K d_is_number ["value", "many"] []) : FnOk P w K mg base CX0 3 f fd ["value"] (spIst K) := by
  refine F.ok scIst (fun vs H Q E h => ?_) (fun cdv A outer s H vs Q E hr h => ?_)
  · obtain ⟨v, s, rfl, _⟩ := h
    rfl
  · obtain ⟨v, s, rfl, hv, s1, s2, s3, k⟩ := h
    refine ⟨_, pss_cons (ps_if (pt_val (pe_callB call_isi (by rfl) (B "isinstance" (by decide)) (by decide +kernel) (pa_cons (pv 0) (pa_cons (pe_bltn (v := .ty "str") rfl (B "str" (by decide)) (by decide +kernel) rfl) pa_nil)))) (pss_never) pss_nil)
      (pss_cons (ps_if (PW.pt (pw_or (pt_not (pt_val (pe_callB call_isi (by rfl) (B "isinstance" (by decide)) (by decide +kernel) (pa_cons (pv 0) (pa_cons (pe_bltn (v := .ty "tuple") rfl (B "tuple" (by decide)) (by decide +kernel) rfl) pa_nil))))) (pw_or1 (pt_cmpR op_ne (pe_callB call_len_seq (by rfl) (B "len" (by decide)) (by decide +kernel) (pa_cons (pv 0) pa_nil)) pe_int (nomark _))))) (pss_one (ps_ret pe_bl)) pss_nil)
      (pss_one (ps_ret (pe_and (pe_cmpR (op_neD hr.units) (pv 0) (pe_tup (pa_cons pe_int (pa_cons pe_int pa_nil))) (nomark _)) (pe_one (pe_callB (cr_all rfl) (by rfl) (B "all" (by decide)) (by decide +kernel) (pa_cons (pe_lc (own := [("part", 1)]) (g := gName 1) (tt := tYes) rfl scIst.nd (pi_tup (pv 0)) (blkOk_by (N := ["value", "part"]) (sc := defScope sIst) (by decide +kernel)) (fun _ _ _ _ _ => pg_name (i := 1) scIst.nd rfl (Or.inl rfl)) (fun _ _ _ _ _ => pts_nil) (fun _ _ _ _ _ => pe_call (E := E0) G_is_number (hr.mono (by decide)) rfl g_is_number k_is_number b_is_number .nil pass0 (pa_cons (pv 1) (pa_cons (pe_op op_add (pe_glob (v := .int 3) rfl g_MOST_IN_STITCH ⟨_, rfl⟩) pe_int) pa_nil)))) pa_nil))))))), ?_⟩
    refine ⟨_, rfl, _, _, _, _, _, rfl, .ty "str", dp_ty hv, kit_d hv "str" (by decide), _, rfl, LK.ifF rfl ?_⟩
    obtain ⟨a, xs, rfl, hs, dx⟩ : ∃ (a : Addr) (xs : List V), v = .ref a ∧ SqT K H a xs ∧ DpAll K H xs [.int (s.1 : Int), .int (s.2 : Int)] := by
      cases hv with
      | tup q r => exact ⟨_, _, rfl, q, r⟩
    obtain rfl := ints_back (ns := [(s.1 : Int), (s.2 : Int)]) dx
    dsimp only [tSeq]
    refine ⟨_, rfl, _, _, _, _, _, rfl, .ty "tuple", dp_ty hv, kit_d hv "tuple" (by decide), _, rfl, LK.ifF rfl ?_⟩
    refine ⟨_, rfl, a, _, rfl, .inr hs, rfl, _, rfl, LK.ifF rfl ?_⟩
    dsimp only [tSeq]
    refine ⟨_, rfl, by show 2 ≤ sizeLine; decide, fun t nt => ?_⟩
    have t1 := same_new (o := .tup [.int 0, .int 0]) nt
    refine ⟨stD s, stD (0, 0), dp_same t1 hv, .tup (SqT.of upd_same) (.cons (.int _) (.cons (.int _) .nil)), rfl, rfl, _, rfl, ?_⟩
    have ne : PyData.eqv (stD s) (stD (0, 0)) = false := by
      show (PyData.eqv (.int (s.1 : Int)) (.int 0) && (PyData.eqv (.int (s.2 : Int)) (.int 0) && true)) = false
      have : PyData.eqv (.int (s.2 : Int)) (.int 0) = false := by
        show decide ((s.2 : Int) = 0) = false
        exact decide_eq_false (by omega)
      rw [this]
      simp
    refine LK.ifT (by rw [ne]; rfl) ?_
    have hs1 := same_tup t1 hs
    refine ⟨_, rfl, a, rfl, ⟨_, hs1⟩, fun D nD => ?_⟩
    refine lcf_tup (ns := [(s.1 : Int), (s.2 : Int)]) (c := V.int) (fun _ => true) (fun _ => V.bl true) hs1 nD (by show 2 ≤ 1000000; decide) (fun i x H1 yes no hx s4 y n => ⟨rfl, ?_⟩) (fun H1 s4 eD => ?_)
    · have x3 : 0 ≤ x ∧ x < 4 := by
        rcases List.mem_cons.mp (List.mem_of_getElem? hx) with rfl | m
        · omega
        · rw [List.mem_singleton.mp m]
          omega
      refine ⟨_, rfl, _, _, rfl, rfl, _, _, _, rfl, .int x, fun H2 s5 => ?_⟩
      rw [isNumD, show decide (0 ≤ x ∧ x < 3 + 1) = true from decide_eq_true x3]
      exact y rfl _ s5
    refine ⟨D, _, rfl, SqL.of (show H1 D = some (.lst ([true, true].map V.bl)) from eD), ?_⟩
    exact k _ (t1.trans s4)
abbrev sIcs : Stmt := top 28
theorem scIcs : FnScope ["value"] ["value"] (defScope sIcs) := ⟨rfl, rfl, rfl, by decide +kernel, rfl, by decide +kernel, by decide +kernel⟩
theorem ok_Ics {f : Addr} {fd : FuncData} (F : Fun K "is_chart_stitch" "is_chart_stitch" sIcs f fd) (B : Bl mg)
    {f_is_stitch : Addr} {d_is_stitch : FuncData} (G_is_stitch : FnOk P w K mg base CX0 3 f_is_stitch d_is_stitch ["value"] (spIst K)) (g_is_stitch : mg "is_stitch" = some (.ref f_is_stitch)) (k_is_stitch : PySem.W.keepIn K (.ref f_is_stitch) = true) (b_is_stitch : Binds K d_is_stitch ["value"] []) : FnOk P w K mg base CX0 4 f fd ["value"] (spIst K) := by
  refine F.ok scIcs (fun vs H Q E h => ?_) (fun cdv A outer s H vs Q E hr h => ?_)
  · obtain ⟨v, s, rfl, _⟩ := h
    rfl
  · obtain ⟨v, s, rfl, hv, s1, s2, s3, k⟩ := h
    refine ⟨_, pss_one (ps_ret (pe_and (pe_callB call_isi (by rfl) (B "isinstance" (by decide)) (by decide +kernel) (pa_cons (pv 0) (pa_cons (pe_bltn (v := .ty "tuple") rfl (B "tuple" (by decide)) (by decide +kernel) rfl) pa_nil))) (pe_and (pe_call (E := E0) G_is_stitch (hr.mono (by decide)) rfl g_is_stitch k_is_stitch b_is_stitch .nil pass0 (pa_cons (pv 0) pa_nil)) (pe_one (pe_cmpR op_gt (pe_ix (ixt (K := K)) (pv 0) pe_int (fun _ _ => rfl)) pe_int (nomark _)))))), ?_⟩
    refine ⟨_, rfl, _, _, _, _, _, rfl, .ty "tuple", dp_ty hv, kit_d hv "tuple" (by decide), _, rfl, LK.ifT rfl ?_⟩
    refine ⟨_, rfl, v, s, rfl, hv, s1, s2, s3, fun H1 e1 => ⟨_, rfl, LK.ifT rfl ?_⟩⟩
    obtain ⟨a, xs, rfl, hs, dx⟩ : ∃ (a : Addr) (xs : List V), v = .ref a ∧ SqT K H a xs ∧ DpAll K H xs [.int (s.1 : Int), .int (s.2 : Int)] := by
      cases hv with
      | tup q r => exact ⟨_, _, rfl, q, r⟩
    obtain rfl := ints_back (ns := [(s.1 : Int), (s.2 : Int)]) dx
    refine ⟨_, rfl, a, _, 1, _, rfl, rfl, same_tup e1 hs, atI_nat (j := 1) rfl, _, _, rfl, rfl, ?_⟩
    show Q (.bl (decide ((0 : Int) < (s.2 : Int)))) H1
    rw [decide_eq_true (by omega)]
    exact k H1 e1
abbrev sIcr : Stmt := top 29
theorem scIcr : FnScope ["value", "count", "thread", "offset", "stitches", "stitch", "taken", "_"] ["value", "count"] (defScope sIcr) := ⟨rfl, rfl, rfl, by decide +kernel, rfl, by decide +kernel, by decide +kernel⟩
theorem ok_Icr {f : Addr} {fd : FuncData} (F : Fun K "is_chart_row" "is_chart_row" sIcr f fd) (B : Bl mg)
    {f_is_thread : Addr} {d_is_thread : FuncData} (G_is_thread : FnOk P w K mg base CX0 1 f_is_thread d_is_thread ["value"] (spThr K)) (g_is_thread : mg "is_thread" = some (.ref f_is_thread)) (k_is_thread : PySem.W.keepIn K (.ref f_is_thread) = true) (b_is_thread : Binds K d_is_thread ["value"] [])
    {f_is_number : Addr} {d_is_number : FuncData} (G_is_number : FnOk P w K mg base CX0 2 f_is_number d_is_number ["value", "many"] (spNum K)) (g_is_number : mg "is_number" = some (.ref f_is_number)) (k_is_number : PySem.W.keepIn K (.ref f_is_number) = true) (b_is_number : Binds K d_is_number ["value", "many"] [])
    {f_is_chart_stitch : Addr} {d_is_chart_stitch : FuncData} (G_is_chart_stitch : FnOk P w K mg base CX0 4 f_is_chart_stitch d_is_chart_stitch ["value"] (spIst K)) (g_is_chart_stitch : mg "is_chart_stitch" = some (.ref f_is_chart_stitch)) (k_is_chart_stitch : PySem.W.keepIn K (.ref f_is_chart_stitch) = true) (b_is_chart_stitch : Binds K d_is_chart_stitch ["value"] []) : FnOk P w K mg base CX0 5 f fd ["value", "count"] (spIcr K) := by
  refine F.ok scIcr (fun vs H Q E h => ?_) (fun cdv A outer s H vs Q E hr h => ?_)
  · obtain ⟨v, c, r, rfl, _⟩ := h
    rfl
  · obtain ⟨v, c, r, rfl, hv, ok, rl, k⟩ := h
    refine ⟨_, pss_cons (ps_if (PW.pt (pw_or (pt_not (pt_val (pe_callB call_isi (by rfl) (B "isinstance" (by decide)) (by decide +kernel) (pa_cons (pv 0) (pa_cons (pe_bltn (v := .ty "tuple") rfl (B "tuple" (by decide)) (by decide +kernel) rfl) pa_nil))))) (pw_or1 (pt_cmpR op_ne (pe_callB call_len_seq (by rfl) (B "len" (by decide)) (by decide +kernel) (pa_cons (pv 0) pa_nil)) pe_int (nomark _))))) (pss_one (ps_ret pe_bl)) pss_nil)
      (pss_cons (ps_asg (pv 0) (pg_tup rfl (pgs_cons (pg_name (i := 2) scIcr.nd rfl (Or.inl rfl)) (pgs_cons (pg_name (i := 3) scIcr.nd rfl (Or.inl rfl)) (pgs_cons (pg_name (i := 4) scIcr.nd rfl (Or.inl rfl)) pgs_nil)))))
      (pss_cons (ps_if (PW.pt (pw_or (pt_not (pt_val (pe_call (E := E0) G_is_thread (hr.mono (by decide)) rfl g_is_thread k_is_thread b_is_thread .nil pass0 (pa_cons (pv 2) pa_nil)))) (pw_or (pt_not (pt_val (pe_call (E := E0) G_is_number (hr.mono (by decide)) rfl g_is_number k_is_number b_is_number .nil pass0 (pa_cons (pv 3) (pa_cons (pv 1) pa_nil))))) (pw_or1 (pt_not (pt_val (pe_callB call_isi (by rfl) (B "isinstance" (by decide)) (by decide +kernel) (pa_cons (pv 4) (pa_cons (pe_bltn (v := .ty "tuple") rfl (B "tuple" (by decide)) (by decide +kernel) rfl) pa_nil))))))))) (pss_one (ps_ret pe_bl)) pss_nil)
      (pss_cons (ps_if (pt_not (pt_val (pe_callB (cr_all rfl) (by rfl) (B "all" (by decide)) (by decide +kernel) (pa_cons (pe_lc (own := [("stitch", 5)]) (g := gName 5) (tt := tYes) rfl scIcr.nd (pi_tup (pv 4)) (blkOk_by (N := ["value", "count", "thread", "offset", "stitches", "stitch", "taken", "_"]) (sc := defScope sIcr) (by decide +kernel)) (fun _ _ _ _ _ => pg_name (i := 5) scIcr.nd rfl (Or.inl rfl)) (fun _ _ _ _ _ => pts_nil) (fun _ _ _ _ _ => pe_call (E := E0) G_is_chart_stitch (hr.mono (by decide)) rfl g_is_chart_stitch k_is_chart_stitch b_is_chart_stitch .nil pass0 (pa_cons (pv 5) pa_nil))) pa_nil)))) (pss_one (ps_ret pe_bl)) pss_nil)
      (pss_one (ps_ret (pe_cmpR op_eq (pe_callB (cr_sum rfl) (by rfl) (B "sum" (by decide)) (by decide +kernel) (pa_cons (pe_lc (own := [("taken", 6), ("_", 7)]) (g := (gTup K 2 (gCons (gName 6) (gCons (gName 7) gNil)))) (tt := tYes) rfl scIcr.nd (pi_tup (pv 4)) (blkOk_by (N := ["value", "count", "thread", "offset", "stitches", "stitch", "taken", "_"]) (sc := defScope sIcr) (by decide +kernel)) (fun _ _ _ _ _ => pg_tup rfl (pgs_cons (pg_name (i := 6) scIcr.nd rfl (Or.inl rfl)) (pgs_cons (pg_name (i := 7) scIcr.nd rfl (Or.inl rfl)) pgs_nil))) (fun _ _ _ _ _ => pts_nil) (fun _ _ _ _ _ => pv 6)) pa_nil)) (pv 1) (nomark _))))))), ?_⟩
    have ty2 : sizeLine = 16777216 := sizeLine_eq
    obtain ⟨a, xs, rfl, hs, dx⟩ : ∃ (a : Addr) (xs : List V), v = .ref a ∧ SqT K H a xs ∧ DpAll K H xs [.str r.nm, .int (r.off : Int), .tuple (r.sts.map stD)] := by
      cases hv with
      | tup q r => exact ⟨_, _, rfl, q, r⟩
    obtain ⟨b, ws, rfl, hw, dw⟩ : ∃ (b : Addr) (ws : List V), xs = [.str r.nm, .int (r.off : Int), .ref b] ∧ SqT K H b ws ∧ DpAll K H ws (r.sts.map stD) := by
      cases dx with
      | cons d1 dx =>
        cases d1
        cases dx with
        | cons d2 dx =>
          cases d2
          cases dx with
          | cons d3 dx =>
            cases dx
            cases d3 with
            | tup q r => exact ⟨_, _, rfl, q, r⟩
    have wl := dps_len dw
    rw [List.length_map] at wl
    refine ⟨_, rfl, _, _, _, _, _, rfl, .ty "tuple", dp_ty hv, kit_d hv "tuple" (by decide), _, rfl, LK.ifF rfl ?_⟩
    refine ⟨_, rfl, a, _, rfl, .inr hs, rfl, _, rfl, LK.ifF rfl ?_⟩
    dsimp only [tSeq]
    refine ⟨_, rfl, a, _, rfl, hs, rfl, ?_⟩
    refine ⟨_, _, rfl, _, _, rfl, _, _, rfl, rfl, ?_⟩
    dsimp only [gName, gCons, gNil, List.set, tSeq]
    obtain ⟨y1, y2, y3⟩ := ok.nm
    have yt : tame (.str r.nm) = true := decide_eq_true (by omega)
    refine ⟨_, rfl, .str r.nm, .str r.nm, rfl, .str _, yt, yn_lay ok.nm, fun H1 s1 => ⟨_, rfl, ?_⟩⟩
    rw [yn_thr ok.nm]
    refine LK.ifF rfl ?_
    refine ⟨_, rfl, _, rfl, _, _, _, rfl, .int _, fun H2 s2 => ⟨_, rfl, ?_⟩⟩
    rw [show isNumD (c : Int) (.int (r.off : Int)) = true by rw [isNumD]; exact decide_eq_true ⟨by omega, by have := ok.off; omega⟩]
    refine LK.ifF rfl ?_
    have s12 := s1.trans s2
    have db : Dp K H (.ref b) (.tuple (r.sts.map stD)) := .tup hw dw
    refine ⟨_, rfl, _, _, _, _, _, rfl, .ty "tuple", dp_ty (dp_same s12 db), kit_d (dp_same s12 db) "tuple" (by decide), _, rfl, LK.ifF rfl ?_⟩
    -- all stitches
    have hw2 := same_tup s12 hw
    have ez : (ws.zip r.sts).map (fun z => z.1) = ws := by rw [show (fun z : V × Sti => z.1) = Prod.fst from rfl, List.map_fst_zip (by omega)]
    refine ⟨_, rfl, b, rfl, ⟨_, by rw [← ez] at hw2; exact hw2⟩, fun D nD => ?_⟩
    refine lcf_tup (ns := ws.zip r.sts) (c := fun z : V × Sti => z.1) (fun _ => true) (fun _ => V.bl true) (by rw [ez]; exact hw2) nD (by rw [List.length_zip]; omega) (fun i z H3 yes no hz s3 y n => ⟨rfl, ?_⟩) (fun H3 s3 eD => ?_)
    · obtain ⟨z1, z2⟩ := List.getElem?_zip_eq_some.mp hz
      obtain ⟨k1, k2, k3⟩ := ok.sts.ok z.2 (List.mem_of_getElem? z2)
      refine ⟨_, rfl, z.1, z.2, rfl, dp_same (s12.trans s3) (dps_get dw z1 (by rw [List.getElem?_map, z2]; rfl)), k1, k2, k3, fun H4 s4 => y rfl _ s4⟩
    have tr : ((ws.zip r.sts).filter fun _ => true).map (fun _ => V.bl true) = (List.replicate r.sts.length true).map V.bl := by
      rw [List.filter_eq_self.mpr (fun _ _ => rfl), List.map_const', List.length_zip, List.map_replicate]
      congr 1
      omega
    rw [tr] at eD
    refine ⟨D, _, rfl, SqL.of eD, ?_⟩
    refine ⟨_, rfl, ?_⟩
    rw [show (List.replicate r.sts.length true).all id = true by simp]
    refine LK.ifF rfl ?_
    -- the sum
    have s03 := s12.trans s3
    have hw3 := same_tup s03 hw
    refine ⟨_, rfl, b, rfl, ⟨_, by rw [← ez] at hw3; exact hw3⟩, fun M nM => ?_⟩
    refine lcf_tup (ns := ws.zip r.sts) (c := fun z : V × Sti => z.1) (fun _ => true) (fun z => V.int (z.2.1 : Int)) (by rw [ez]; exact hw3) nM (by rw [List.length_zip]; omega) (fun i z H4 yes no hz s4 y n => ?_) (fun H4 s4 eM => ?_)
    · obtain ⟨z1, z2⟩ := List.getElem?_zip_eq_some.mp hz
      obtain ⟨q, e1, q1⟩ := st_tup (dp_same (s03.trans s4) (dps_get dw z1 (by rw [List.getElem?_map, z2]; rfl)))
      rw [e1]
      refine ⟨q, _, rfl, q1, rfl, _, _, rfl, _, _, rfl, rfl, rfl, ?_⟩
      exact ⟨_, rfl, y rfl _ (Same.refl _)⟩
    have tm : ((ws.zip r.sts).filter fun _ => true).map (fun z => V.int (z.2.1 : Int)) = (r.sts.map fun s => (s.1 : Int)).map V.int := by
      rw [List.filter_eq_self.mpr (fun _ _ => rfl), List.map_map]
      conv => rhs; rw [← List.map_snd_zip (l₁ := ws) (l₂ := r.sts) (by omega), List.map_map]
      rfl
    rw [tm] at eM
    refine ⟨M, _, rfl, SqL.of eM, ?_⟩
    rw [sum_tks, ok.sts.tk]
    refine ⟨_, rfl, rfl, ?_⟩
    have := k H4 (s03.trans s4)
    simpa using this
end
end T6
/-! count_rows, the class Chart -/
namespace T6
open PySem PySem.Spec PyProof.Rows L2 LK MXi MY MZ
/-- a chart at x -/
def IsH (K : PySem.W.Frag) (CC : Addr) (H : Hp) (x : Addr) (size : Nat) (rs : List Rw) : Prop := ∃ (dx L G : Addr) (xs : List V), H x = some (.ins CC dx [("_counts", .ref G), ("_rows", .ref L)]) ∧ H L = some (.lst xs) ∧ DpAll K H xs (rs.map rwD) ∧ H G = some (.lst (nI (cnts size rs)))
theorem IsH.same {K : PySem.W.Frag} {CC : Addr} {H H' : Hp} {x : Addr} {size : Nat} {rs : List Rw} (h : IsH K CC H x size rs) (s : Same H H') : IsH K CC H' x size rs := by
  obtain ⟨dx, L, G, xs, h1, h2, h3, h4⟩ := h
  exact ⟨dx, L, G, xs, s _ _ h1, s _ _ h2, dps_same s h3, s _ _ h4⟩
def spCsz (K : PySem.W.Frag) : Sp := fun vs H Q _ => ∃ i : Int, vs = [.int i] ∧ 1 ≤ i ∧ ∀ H', Same H H' → Q .non H'
def spCnr (K : PySem.W.Frag) : Sp := fun vs H Q _ => ∃ (Lr : Addr) (xs : List V) (size : Nat) (rs : List Rw), vs = [.int size, .ref Lr] ∧ SqL K H Lr xs ∧ DpAll K H xs (rs.map rwD) ∧ Rows size rs size ∧ rs ≠ [] ∧ (rs.length ≤ 1000 ∧ ∀ r ∈ rs, r.sts.length ≤ 1000) ∧
  ∀ (p : Addr) (H' : Hp), H p = none → Same H H' → H' p = some (.lst (nI (cnts size rs))) → Q (.ref p) H'
def spHin (K : PySem.W.Frag) (CC : Addr) : Sp := fun vs H Q _ => ∃ (x dx Lr : Addr) (xs : List V) (size : Nat) (rs : List Rw), vs = [.ref x, .int size, .ref Lr] ∧ H x = some (.ins CC dx []) ∧ SqL K H Lr xs ∧ DpAll K H xs (rs.map rwD) ∧ Rows size rs size ∧ rs ≠ [] ∧ (rs.length ≤ 1000 ∧ ∀ r ∈ rs, r.sts.length ≤ 1000) ∧ 1 ≤ size ∧
  ∀ (G L' : Addr) (H' : Hp), (∀ b o, b ≠ x → H b = some o → H' b = some o) → H' x = some (.ins CC dx [("_counts", .ref G), ("_rows", .ref L')]) → H' G = some (.lst (nI (cnts size rs))) → H' L' = some (.lst xs) → H G = none → H L' = none → Q .non H'
def spHwd (K : PySem.W.Frag) (CC : Addr) : Sp := fun vs H Q _ => ∃ (x : Addr) (size : Nat) (rs : List Rw), vs = [.ref x] ∧ IsH K CC H x size rs ∧ Q (.int size) H
def spHrw (K : PySem.W.Frag) (CC : Addr) : Sp := fun vs H Q _ => ∃ (x : Addr) (size : Nat) (rs : List Rw), vs = [.ref x] ∧ IsH K CC H x size rs ∧ ∀ (p : Addr) (xs : List V), H p = none → DpAll K H xs (rs.map rwD) → Q (.ref p) (upd H p (.lst xs))
def spHct (K : PySem.W.Frag) (CC : Addr) : Sp := fun vs H Q _ => ∃ (x : Addr) (size : Nat) (rs : List Rw), vs = [.ref x] ∧ IsH K CC H x size rs ∧ ∀ (p : Addr), H p = none → Q (.ref p) (upd H p (.lst (nI (cnts size rs))))
def spHln (K : PySem.W.Frag) (CC : Addr) : Sp := fun vs H Q _ => ∃ (x : Addr) (size : Nat) (rs : List Rw), vs = [.ref x] ∧ IsH K CC H x size rs ∧ Q (.int (rs.length : Nat)) H
/-- the class -/
structure Ch2 (P : Program) (w : World) (K : PySem.W.Frag) (mg : Str → Option Value) (base : Heap) (CC : Addr) where
  (pW pR pK gW gR gK gN fC : Addr)
  (fW fR fK fN dC : FuncData)
  aW : PropOf K CC "width" pW gW
  aR : PropOf K CC "rows" pR gR
  aK : PropOf K CC "counts" pK gK
  aN : LenOf K CC gN
  bW : Binds K fW ["self"] []
  bR : Binds K fR ["self"] []
  bK : Binds K fK ["self"] []
  bN : Binds K fN ["self"] []
  oW : FnOk P w K mg base CX0 1 gW fW ["self"] (spHwd K CC)
  oR : FnOk P w K mg base CX0 1 gR fR ["self"] (spHrw K CC)
  oK : FnOk P w K mg base CX0 1 gK fK ["self"] (spHct K CC)
  oN : FnOk P w K mg base CX0 1 gN fN ["self"] (spHln K CC)
  cc : Cls K CC
  mC : Mk K CC fC
  oC : FnOk P w K mg base CX0 7 fC dC ["self", "width", "rows"] (spHin K CC)
  gC : mg "Chart" = some (.ref CC)
  bC : Binds K dC ["self", "width", "rows"] []
theorem rows_short {most : Nat} {size : Nat} {rs : List Rw} (rr : Rows size rs size) (cc : ∀ x ∈ cnts size rs, 1 ≤ x ∧ x ≤ most) : ∀ r ∈ rs, r.sts.length ≤ most := fun r m => by
  obtain ⟨i, hi⟩ := List.getElem?_of_mem m
  obtain ⟨a, c1, c2, ok⟩ := rows_at rr hi
  have := ok.sts.len
  have := (cc _ (List.mem_of_getElem? c2)).2
  omega
/-- a chart of a right plan -/
theorem chart_new {K : PySem.W.Frag} {CC : Addr} {H : Hp} {Lr : Addr} {xs : List V} {size : Nat} {rs : List Rw} (hL : SqL K H Lr xs) (dx : DpAll K H xs (rs.map rwD)) (rr : Rows size rs size) (ne : rs ≠ []) (few : rs.length ≤ 1000 ∧ ∀ r ∈ rs, r.sts.length ≤ 1000) (s1 : 1 ≤ size) {x dxa : Addr} {Q : VK} {E : XK} (nx : H x = none) (ndx : H dxa = none)
    (q : ∀ H', Same H H' → IsH K CC H' x size rs → (∀ (c : Addr) (B : Nat), CR H c B → ∀ H2, Bt c H' H2 → IsH K CC H2 x size rs) → Q .non H') : spHin K CC [.ref x, .int size, .ref Lr] (upd (upd H dxa (.own x)) x (.ins CC dxa [])) Q E := by
  have s0 : Same H (upd (upd H dxa (.own x)) x (.ins CC dxa [])) := fun b o e => by
    rw [upd_ne (ne_of_none e nx), upd_ne (ne_of_none e ndx)]
    exact e
  refine ⟨x, dxa, Lr, xs, size, rs, rfl, upd_same, s0.seq hL, dps_same s0 dx, rr, ne, few, s1, fun G L' H' bx hx hG hL' nG nL => ?_⟩
  have back : ∀ {p : Addr}, upd (upd H dxa (.own x)) x (.ins CC dxa []) p = none → H p = none := fun {p} n => gone s0 n
  have sH : Same H H' := fun b o e => bx b o (ne_of_none e nx) (s0 b o e)
  refine q H' sH ⟨dxa, L', G, xs, hx, hL', dps_same sH dx, hG⟩ fun c B hc H2 b2 => ?_
  have hc' := hc.same sH
  exact ⟨dxa, L', G, xs, Tl.bt hc' b2 _ _ (fun _ z => by cases z) hx, b2 _ _ (cr_ne hc (back nL)) hL', dps_tl (Tl.bt hc' b2) (noLs_rws rs) (dps_same sH dx), b2 _ _ (cr_ne hc (back nG)) hG⟩
section
variable {P : Program} {w : World} {K : PySem.W.Frag} {mg : Str → Option Value} {base : Heap}
abbrev sCsz : Stmt := top 15
theorem scCsz : FnScope ["size"] ["size"] (defScope sCsz) := ⟨rfl, rfl, rfl, by decide +kernel, rfl, by decide +kernel, by decide +kernel⟩
theorem ok_Csz {f : Addr} {fd : FuncData} (F : Fun K "check_size" "check_size" sCsz f fd) (B : Bl mg)
    {f_is_integer : Addr} {d_is_integer : FuncData} (G_is_integer : FnOk P w K mg base CX0 1 f_is_integer d_is_integer ["value"] (spInt K)) (g_is_integer : mg "is_integer" = some (.ref f_is_integer)) (k_is_integer : PySem.W.keepIn K (.ref f_is_integer) = true) (b_is_integer : Binds K d_is_integer ["value"] []) : FnOk P w K mg base CX0 2 f fd ["size"] (spCsz K) := by
  refine F.ok scCsz (fun vs H Q E h => ?_) (fun cdv A outer s H vs Q E hr h => ?_)
  · obtain ⟨i, rfl, _⟩ := h
    rfl
  · obtain ⟨i, rfl, h1, k⟩ := h
    refine ⟨_, pss_one (ps_if (PW.pt (pw_or (pt_not (pt_val (pe_call (E := E0) G_is_integer (hr.mono (by decide)) rfl g_is_integer k_is_integer b_is_integer .nil pass0 (pa_cons (pv 0) pa_nil)))) (pw_or1 (pt_cmpR op_lt (pv 0) pe_int (nomark _))))) pss_never pss_nil), ?_⟩
    refine ⟨_, rfl, _, _, rfl, .int i, fun H1 s1 => ⟨_, rfl, LK.ifF rfl ⟨_, rfl, _, _, rfl, rfl, _, rfl, LK.ifF (decide_eq_false (by omega)) (k H1 s1)⟩⟩⟩
abbrev sCnr : Stmt := top 30
theorem scCnr : FnScope ["width", "rows", "counts", "index", "row", "_", "drawn"] ["width", "rows"] (defScope sCnr) := ⟨rfl, rfl, rfl, by decide +kernel, rfl, by decide +kernel, by decide +kernel⟩
theorem ok_Cnr {f : Addr} {fd : FuncData} (F : Fun K "count_rows" "count_rows" sCnr f fd) (B : Bl mg)
    {f_is_chart_row : Addr} {d_is_chart_row : FuncData} (G_is_chart_row : FnOk P w K mg base CX0 5 f_is_chart_row d_is_chart_row ["value", "count"] (spIcr K)) (g_is_chart_row : mg "is_chart_row" = some (.ref f_is_chart_row)) (k_is_chart_row : PySem.W.keepIn K (.ref f_is_chart_row) = true) (b_is_chart_row : Binds K d_is_chart_row ["value", "count"] []) : FnOk P w K mg base CX0 6 f fd ["width", "rows"] (spCnr K) := by
  refine F.ok scCnr (fun vs H Q E h => ?_) (fun cdv A outer s H vs Q E hr h => ?_)
  · obtain ⟨Lr, xs, size, rs, rfl, _⟩ := h
    rfl
  · obtain ⟨Lr, xs, size, rs, rfl, hL, dx, rr, ne, few, k⟩ := h
    refine ⟨_, pss_cons (ps_if (PW.pt (pw_or (pt_not (pt_val (pe_callB call_isi (by rfl) (B "isinstance" (by decide)) (by decide +kernel) (pa_cons (pv 1) (pa_cons (pe_bltn (v := .ty "list") rfl (B "list" (by decide)) (by decide +kernel) rfl) pa_nil))))) (pw_or1 (pt_not (pt_truth (pv 1) (by intro _; rfl)))))) pss_never pss_nil)
      (pss_cons (ps_set (i := 2) scCnr.nd rfl (Or.inl rfl) (pe_lst (pa_cons (pv 0) pa_nil)))
      (pss_cons (ps_for PassesOwn.never rfl (pi_enum (by rfl) (B "enumerate" (by decide)) (pa_cons (pv 1) pa_nil)) (pg_tup rfl (pgs_cons (pg_name (i := 3) scCnr.nd rfl (Or.inl rfl)) (pgs_cons (pg_name (i := 4) scCnr.nd rfl (Or.inl rfl)) pgs_nil))) (pss_cons (ps_if (pt_not (pt_val (pe_call (E := E0) G_is_chart_row (hr.mono (by decide)) rfl g_is_chart_row k_is_chart_row b_is_chart_row .nil pass0 (pa_cons (pv 4) (pa_cons (pe_ix ix_list (pv 2) (pe_un un_neg pe_int) (fun _ _ => rfl)) pa_nil))))) pss_never pss_nil)
      (pss_one (ps_expr (pe_bm PySem.F.plainAttrs_list PySem.F.slot_list_append PySem.F.type_list_append mt_append (pv 2) (pa_cons (pe_callB (cr_sum rfl) (by rfl) (B "sum" (by decide)) (by decide +kernel) (pa_cons (pe_lc (own := [("_", 5), ("drawn", 6)]) (g := (gTup K 2 (gCons (gName 5) (gCons (gName 6) gNil)))) (tt := tYes) rfl scCnr.nd (pi_tup (pe_ix (ixt (K := K)) (pv 4) pe_int (fun _ _ => rfl))) (blkOk_by (N := ["width", "rows", "counts", "index", "row", "_", "drawn"]) (sc := defScope sCnr) (by decide +kernel)) (fun _ _ _ _ _ => pg_tup rfl (pgs_cons (pg_name (i := 5) scCnr.nd rfl (Or.inl rfl)) (pgs_cons (pg_name (i := 6) scCnr.nd rfl (Or.inl rfl)) pgs_nil))) (fun _ _ _ _ _ => pts_nil) (fun _ _ _ _ _ => pv 6)) pa_nil)) pa_nil))))))
      (pss_cons (ps_if (pt_cmpR op_ne (pe_ix ix_list (pv 2) (pe_un un_neg pe_int) (fun _ _ => rfl)) (pv 0) (nomark _)) pss_never pss_nil)
      (pss_one (ps_ret (pv 2)))))), ?_⟩
    have ty2 : sizeLine = 16777216 := sizeLine_eq
    have xl := dps_len dx
    rw [List.length_map] at xl
    have rl : 0 < rs.length := List.length_pos_iff.mpr ne
    have hD : Dp K H (.ref Lr) (.list (rs.map rwD)) := .lst hL dx
    refine ⟨_, rfl, _, _, _, _, _, rfl, .ty "list", dp_ty hD, kit_d hD "list" (by decide), _, rfl, LK.ifF rfl ?_⟩
    refine ⟨_, rfl, true, .inl ⟨xs, hL, ?_⟩, LK.ifF rfl ?_⟩
    · cases xs with
      | nil => rw [List.length_nil] at xl; omega
      | cons a r => rfl
    dsimp only [tSeq]
    refine ⟨_, rfl, by show 1 ≤ sizeLine; decide, fun C nC => ?_⟩
    have t1 := same_new (o := .lst [.int (size : Int)]) nC
    dsimp only [gName, List.set, tSeq]
    refine stJ (fun σ Hn => ∃ (o3 o4 o5 o6 : Option V), σ = [some (.int size), some (.ref Lr), some (.ref C), o3, o4, o5, o6] ∧ Same H Hn ∧ Hn C = some (.lst (nI (cnts size rs)))) (fun D' aft => ?_) ?_
    · refine ⟨_, rfl, Lr, xs, rfl, t1.seq hL, ?_⟩
      refine for_enum (K := K) (a := Lr) (xs := xs) (fun i σ Hn => ∃ (o3 o4 o5 o6 : Option V), σ = [some (.int size), some (.ref Lr), some (.ref C), o3, o4, o5, o6] ∧ Same H Hn ∧ Hn C = some (.lst (nI ((cnts size rs).take (i + 1)))))
        ⟨_, _, _, _, rfl, t1, upd_same⟩ (fun i σ Hn hI => by obtain ⟨_, _, _, _, _, s, _⟩ := hI; exact s.seq hL) (fun i x T σ Hn hx hI nT => ?_) (fun σ Hn hI => ?_)
      · obtain ⟨o3, o4, o5, o6, rfl, s, eC⟩ := hI
        have il := (List.getElem?_eq_some_iff.mp hx).1
        obtain ⟨r, hr'⟩ : ∃ r, rs[i]? = some r := ⟨_, List.getElem?_eq_getElem (by omega)⟩
        obtain ⟨a, c1, c2, okr⟩ := rows_at rr hr'
        have t2 := same_new (o := .tup [.int (i : Nat), x]) nT
        have eC2 := t2 _ _ eC
        have s2 := s.trans t2
        have hr2 := dp_same s2 (dps_get dx hx (by rw [List.getElem?_map, hr']; rfl))
        have eT2 := upd_same (H := Hn) (a := T) (o := .tup [.int (i : Nat), x])
        generalize upd Hn T (.tup [.int (i : Nat), x]) = H2 at eC2 s2 hr2 eT2
        have tk1 : (cnts size rs).take (i + 1) = (cnts size rs).take i ++ [a] := by
          rw [List.take_add_one, c1]
          rfl
        have tk2 : (cnts size rs).take (i + 1 + 1) = (cnts size rs).take (i + 1) ++ [drs r.sts] := by
          rw [List.take_add_one, c2]
          rfl
        refine ⟨T, _, rfl, SqT.of eT2, rfl, ?_⟩
        refine ⟨_, _, rfl, _, _, rfl, rfl, ?_⟩
        dsimp only [gName, gCons, gNil, List.set, tSeq]
        refine ⟨_, rfl, _, rfl, 1, rfl, C, _, -1, .int (a : Int), rfl, rfl, SqL.of eC2, by rw [tk1, show nI ((cnts size rs).take i ++ [a]) = nI ((cnts size rs).take i) ++ [V.int (a : Int)] from List.map_append]; exact atI_last _ _, ?_⟩
        refine ⟨x, a, r, rfl, hr2, okr, few.2 r (List.mem_of_getElem? hr'), fun H3 s3 => ⟨_, rfl, LK.ifF rfl ?_⟩⟩
        have hr3 := dp_same s3 hr2
        have eC3 := s3 _ _ eC2
        obtain ⟨ax, axs, rfl, hax, dax⟩ : ∃ (ax : Addr) (axs : List V), x = .ref ax ∧ SqT K H3 ax axs ∧ DpAll K H3 axs [.str r.nm, .int (r.off : Int), .tuple (r.sts.map stD)] := by
          cases hr3 with
          | tup q r => exact ⟨_, _, rfl, q, r⟩
        obtain ⟨b, ws, rfl, hw, dw⟩ : ∃ (b : Addr) (ws : List V), axs = [.str r.nm, .int (r.off : Int), .ref b] ∧ SqT K H3 b ws ∧ DpAll K H3 ws (r.sts.map stD) := by
          cases dax with
          | cons d1 dx =>
            cases d1
            cases dx with
            | cons d2 dx =>
              cases d2
              cases dx with
              | cons d3 dx =>
                cases dx
                cases d3 with
                | tup q r => exact ⟨_, _, rfl, q, r⟩
        have wl := dps_len dw
        rw [List.length_map] at wl
        have fw := few.2 r (List.mem_of_getElem? hr')
        have ez : (ws.zip r.sts).map (fun z => z.1) = ws := by rw [show (fun z : V × Sti => z.1) = Prod.fst from rfl, List.map_fst_zip (by omega)]
        refine ⟨_, rfl, .inl ⟨rfl, _, SqL.of eC3⟩, ?_⟩
        refine ⟨_, rfl, ax, _, 2, _, rfl, rfl, hax, atI_nat (j := 2) rfl, b, rfl, ⟨_, by rw [← ez] at hw; exact hw⟩, fun M nM => ?_⟩
        refine lcf_tup (ns := ws.zip r.sts) (c := fun z : V × Sti => z.1) (fun _ => true) (fun z => V.int (z.2.2 : Int)) (by rw [ez]; exact hw) nM (by rw [List.length_zip]; omega) (fun j z H4 yes no hz s4 y n => ?_) (fun H4 s4 eM => ?_)
        · obtain ⟨z1, z2⟩ := List.getElem?_zip_eq_some.mp hz
          obtain ⟨q, e1, q1⟩ := st_tup (dp_same s4 (dps_get dw z1 (by rw [List.getElem?_map, z2]; rfl)))
          rw [e1]
          refine ⟨q, _, rfl, q1, rfl, _, _, rfl, _, _, rfl, rfl, rfl, ?_⟩
          exact ⟨_, rfl, y rfl _ (Same.refl _)⟩
        have tm : ((ws.zip r.sts).filter fun _ => true).map (fun z => V.int (z.2.2 : Int)) = (r.sts.map fun s => (s.2 : Int)).map V.int := by
          rw [List.filter_eq_self.mpr (fun _ _ => rfl), List.map_map]
          conv => rhs; rw [← List.map_snd_zip (l₁ := ws) (l₂ := r.sts) (by omega), List.map_map]
          rfl
        rw [tm] at eM
        have eC4 := s4 _ _ eC3
        have cl := cnts_len size rs
        refine ⟨M, _, rfl, SqL.of eM, C, _, _, rfl, rfl, eC4, by rw [List.length_map, List.length_take]; omega, ?_⟩
        rw [sum_drs]
        refine ⟨_, _, _, _, rfl, fun b' o e => ?_, ?_⟩
        · rw [upd_ne (ne_none e nC)]
          exact (s2.trans s3 |>.trans s4) _ _ e
        · rw [upd_same, tk2]
          rw [nI_app]
          rfl
      · obtain ⟨o3, o4, o5, o6, rfl, s, eC⟩ := hI
        rw [List.take_of_length_le (by rw [cnts_len]; omega)] at eC
        exact aft _ _ ⟨_, _, _, _, rfl, s, eC⟩
    rintro σ Hn ⟨o3, o4, o5, o6, rfl, s, eC⟩
    dsimp only [tSeq]
    have ce := cnts_end rr
    have tk : cnts size rs = (cnts size rs).take rs.length ++ [size] := by
      have := List.take_of_length_le (l := cnts size rs) (i := rs.length + 1) (by rw [cnts_len]; omega)
      rw [List.take_add_one, ce] at this
      exact this.symm
    refine ⟨_, rfl, 1, rfl, C, _, -1, .int (size : Int), rfl, rfl, SqL.of eC, by rw [tk, show nI ((cnts size rs).take rs.length ++ [size]) = nI ((cnts size rs).take rs.length) ++ [V.int (size : Int)] from List.map_append]; exact atI_last _ _, ?_⟩
    refine ⟨_, rfl, rfl, _, rfl, LK.ifF (by simp) ?_⟩
    exact ⟨_, rfl, k C Hn nC s eC⟩
abbrev sHin : Stmt := inClass (top 31) 0
theorem scHin : FnScope ["self", "width", "rows"] ["self", "width", "rows"] (defScope sHin) := ⟨rfl, rfl, rfl, by decide +kernel, rfl, by decide +kernel, by decide +kernel⟩
theorem ok_Hin {f : Addr} {fd : FuncData} (F : Fun K "__init__" "Chart.__init__" sHin f fd) (B : Bl mg) {CC : Addr} (cc : Cls K CC) (n1 : NoAttr K CC "_counts") (n2 : NoAttr K CC "_rows")
    {f_check_size : Addr} {d_check_size : FuncData} (G_check_size : FnOk P w K mg base CX0 2 f_check_size d_check_size ["size"] (spCsz K)) (g_check_size : mg "check_size" = some (.ref f_check_size)) (k_check_size : PySem.W.keepIn K (.ref f_check_size) = true) (b_check_size : Binds K d_check_size ["size"] [])
    {f_count_rows : Addr} {d_count_rows : FuncData} (G_count_rows : FnOk P w K mg base CX0 6 f_count_rows d_count_rows ["width", "rows"] (spCnr K)) (g_count_rows : mg "count_rows" = some (.ref f_count_rows)) (k_count_rows : PySem.W.keepIn K (.ref f_count_rows) = true) (b_count_rows : Binds K d_count_rows ["width", "rows"] []) : FnOk P w K mg base CX0 7 f fd ["self", "width", "rows"] (spHin K CC) := by
  refine F.ok scHin (fun vs H Q E h => ?_) (fun cdv A outer s H vs Q E hr h => ?_)
  · obtain ⟨x, dx, Lr, xs, size, rs, rfl, _⟩ := h
    rfl
  · obtain ⟨x, dx, Lr, xs, size, rs, rfl, hx, hL, dL, rr, ne, few, s1, k⟩ := h
    refine ⟨_, pss_cons (ps_expr (pe_call (E := E0) G_check_size (hr.mono (by decide)) rfl g_check_size k_check_size b_check_size .nil pass0 (pa_cons (pv 1) pa_nil)))
      (pss_cons (ps_fld (pv 0) (pe_call (E := E0) G_count_rows (hr.mono (by decide)) rfl g_count_rows k_count_rows b_count_rows .nil pass0 (pa_cons (pv 1) (pa_cons (pv 2) pa_nil))) rfl)
      (pss_one (ps_fld (pv 0) (pe_callTy call_list_of (by rfl) (B "list" (by decide)) (by decide +kernel) (pa_cons (pv 2) pa_nil)) rfl))), ?_⟩
    refine ⟨_, rfl, _, rfl, by omega, fun H1 e1 => ?_⟩
    dsimp only [tSeq]
    refine ⟨_, rfl, _, rfl, Lr, xs, size, rs, rfl, e1.seq hL, dps_same e1 dL, rr, ne, few, fun G H2 nG e2 eG => ?_⟩
    have e12 := e1.trans e2
    have nG0 := gone e1 nG
    have xG : x ≠ G := ne_none hx nG0
    refine ⟨_, rfl, x, CC, dx, [], rfl, e12 _ _ hx, cc, n1, by decide, ?_⟩
    have b2 : ∀ b o, b ≠ x → H b = some o → upd H2 x (.ins CC dx (putF "_counts" (.ref G) [])) b = some o := fun b o n e => by
      rw [upd_ne n]
      exact e12 _ _ e
    have hx2 := upd_same (H := H2) (a := x) (o := .ins CC dx (putF "_counts" (.ref G) []))
    have eG2 : upd H2 x (.ins CC dx (putF "_counts" (.ref G) [])) G = some (.lst (nI (cnts size rs))) := by
      rw [upd_ne xG.symm]
      exact eG
    have hL2 : SqL K (upd H2 x (.ins CC dx (putF "_counts" (.ref G) []))) Lr xs := by
      rcases hL with (h | ⟨o, h⟩) | h
      · exact .inl (.inl (b2 _ _ (ne_of h hx (by intro q; cases q)) h))
      · exact .inl (.inr ⟨o, b2 _ _ (ne_of h hx (by intro q; cases q)) h⟩)
      · exact .inr h
    generalize upd H2 x (.ins CC dx (putF "_counts" (.ref G) [])) = H3 at b2 hx2 eG2 hL2
    dsimp only [tSeq]
    refine ⟨_, rfl, Lr, xs, rfl, .inl hL2, fun L2' nL => ?_⟩
    have t4 := same_new (o := .lst xs) nL
    have xL : x ≠ L2' := ne_none hx2 nL
    refine ⟨_, rfl, x, CC, dx, _, rfl, t4 _ _ hx2, cc, n2, by show 1 < 1000; decide, ?_⟩
    refine k G L2' _ (fun b o n e => ?_) ?_ ?_ ?_ nG0 ?_
    · rw [upd_ne n]
      exact t4 _ _ (b2 b o n e)
    · rw [upd_same]
      rfl
    · rw [upd_ne xG.symm]
      exact t4 _ _ eG2
    · rw [upd_ne xL.symm, upd_same]
    · cases e : H L2' with
      | none => rfl
      | some o =>
        have := b2 _ _ xL.symm e
        rw [nL] at this
        cases this
abbrev sHwd : Stmt := inClass (top 31) 1
theorem scHwd : FnScope ["self"] ["self"] (defScope sHwd) := ⟨rfl, rfl, rfl, by decide +kernel, rfl, by decide +kernel, by decide +kernel⟩
theorem ok_Hwd {f : Addr} {fd : FuncData} (F : Fun K "width" "Chart.width" sHwd f fd) (B : Bl mg) {CC : Addr} (cc : Cls K CC) (n1 : NoAttr K CC "_counts") : FnOk P w K mg base CX0 1 f fd ["self"] (spHwd K CC) := by
  refine F.ok scHwd (fun vs H Q E h => ?_) (fun cdv A outer s H vs Q E hr h => ?_)
  · obtain ⟨x, size, rs, rfl, _⟩ := h
    rfl
  · obtain ⟨x, size, rs, rfl, ⟨dx, L, G, xs, hx, hL, dL, hG⟩, k⟩ := h
    refine ⟨_, pss_one (ps_ret (pe_ix ix_list (pe_fld (pv 0) rfl) pe_int (fun _ _ => rfl))), ?_⟩
    exact ⟨_, rfl, x, CC, dx, _, _, rfl, hx, cc, n1, rfl, G, _, 0, _, rfl, rfl, SqL.of hG, atI_nat (j := 0) rfl, k⟩
abbrev sHrw : Stmt := inClass (top 31) 2
theorem scHrw : FnScope ["self"] ["self"] (defScope sHrw) := ⟨rfl, rfl, rfl, by decide +kernel, rfl, by decide +kernel, by decide +kernel⟩
theorem ok_Hrw {f : Addr} {fd : FuncData} (F : Fun K "rows" "Chart.rows" sHrw f fd) (B : Bl mg) {CC : Addr} (cc : Cls K CC) (n2 : NoAttr K CC "_rows") : FnOk P w K mg base CX0 1 f fd ["self"] (spHrw K CC) := by
  refine F.ok scHrw (fun vs H Q E h => ?_) (fun cdv A outer s H vs Q E hr h => ?_)
  · obtain ⟨x, size, rs, rfl, _⟩ := h
    rfl
  · obtain ⟨x, size, rs, rfl, ⟨dx, L, G, xs, hx, hL, dL, hG⟩, k⟩ := h
    refine ⟨_, pss_one (ps_ret (pe_callTy call_list_of (by rfl) (B "list" (by decide)) (by decide +kernel) (pa_cons (pe_fld (pv 0) rfl) pa_nil))), ?_⟩
    exact ⟨_, rfl, x, CC, dx, _, _, rfl, hx, cc, n2, rfl, L, xs, rfl, .inl (SqL.of hL), fun p np => k p xs np dL⟩
abbrev sHct : Stmt := inClass (top 31) 3
theorem scHct : FnScope ["self"] ["self"] (defScope sHct) := ⟨rfl, rfl, rfl, by decide +kernel, rfl, by decide +kernel, by decide +kernel⟩
theorem ok_Hct {f : Addr} {fd : FuncData} (F : Fun K "counts" "Chart.counts" sHct f fd) (B : Bl mg) {CC : Addr} (cc : Cls K CC) (n1 : NoAttr K CC "_counts") : FnOk P w K mg base CX0 1 f fd ["self"] (spHct K CC) := by
  refine F.ok scHct (fun vs H Q E h => ?_) (fun cdv A outer s H vs Q E hr h => ?_)
  · obtain ⟨x, size, rs, rfl, _⟩ := h
    rfl
  · obtain ⟨x, size, rs, rfl, ⟨dx, L, G, xs, hx, hL, dL, hG⟩, k⟩ := h
    refine ⟨_, pss_one (ps_ret (pe_callTy call_list_of (by rfl) (B "list" (by decide)) (by decide +kernel) (pa_cons (pe_fld (pv 0) rfl) pa_nil))), ?_⟩
    exact ⟨_, rfl, x, CC, dx, _, _, rfl, hx, cc, n1, rfl, G, _, rfl, .inl (SqL.of hG), fun p np => k p np⟩
abbrev sHln : Stmt := inClass (top 31) 7
theorem scHln : FnScope ["self"] ["self"] (defScope sHln) := ⟨rfl, rfl, rfl, by decide +kernel, rfl, by decide +kernel, by decide +kernel⟩
theorem ok_Hln {f : Addr} {fd : FuncData} (F : Fun K "__len__" "Chart.__len__" sHln f fd) (B : Bl mg) {CC : Addr} (cc : Cls K CC) (n2 : NoAttr K CC "_rows") : FnOk P w K mg base CX0 1 f fd ["self"] (spHln K CC) := by
  refine F.ok scHln (fun vs H Q E h => ?_) (fun cdv A outer s H vs Q E hr h => ?_)
  · obtain ⟨x, size, rs, rfl, _⟩ := h
    rfl
  · obtain ⟨x, size, rs, rfl, ⟨dx, L, G, xs, hx, hL, dL, hG⟩, k⟩ := h
    refine ⟨_, pss_one (ps_ret (pe_callB call_len_seq (by rfl) (B "len" (by decide)) (by decide +kernel) (pa_cons (pe_fld (pv 0) rfl) pa_nil))), ?_⟩
    refine ⟨_, rfl, x, CC, dx, _, _, rfl, hx, cc, n2, rfl, L, xs, rfl, .inl (SqL.of hL), ?_⟩
    rw [dps_len dL, List.length_map]
    exact k
end
end T6
/-! Where the ends of a stretch lie in the row below: the mathematics of spans. -/
namespace MZ
open PySem PySem.Spec PyProof.Rows L2 LK MY
/-- what a stitch that takes loops takes (lo to hi) and draws (nw to ls) -/
structure Spn where
  lo : Nat
  hi : Nat
  nw : Nat
  ls : Nat
def spn : Nat → Nat → List Sti → List Spn
  | _, _, [] => []
  | lo, nw, s :: r => (if 0 < s.1 then [⟨lo, lo + s.1 - 1, nw, nw + s.2 - 1⟩] else []) ++ spn (lo + s.1) (nw + s.2) r
theorem spn_app : ∀ (a b : List Sti) (lo nw : Nat), spn lo nw (a ++ b) = spn lo nw a ++ spn (lo + tks a) (nw + drs a) b
  | [], b, lo, nw => rfl
  | s :: a, b, lo, nw => by
    have := spn_app a b (lo + s.1) (nw + s.2)
    show _ ++ spn _ _ (a ++ b) = (_ ++ spn _ _ a) ++ _
    rw [this, List.append_assoc]
    have e1 : lo + s.1 + tks a = lo + tks (s :: a) := by
      unfold tks
      rw [List.map_cons, List.sum_cons]
      omega
    have e2 : nw + s.2 + drs a = nw + drs (s :: a) := by
      unfold drs
      rw [List.map_cons, List.sum_cons]
      omega
    rw [e1, e2]
/-- spans one behind the other, in a repeat -/
structure SpOk (L : List Spn) (off a b : Nat) : Prop where
  ord : L.Pairwise fun p q => p.hi < q.lo ∧ p.ls < q.nw
  ok : ∀ q ∈ L, off ≤ q.lo ∧ q.lo ≤ q.hi ∧ q.hi < off + a ∧ q.nw ≤ q.ls ∧ q.ls < b
  ne : L ≠ []
theorem spn_ok : ∀ (ss : List Sti) (lo nw : Nat), (∀ s ∈ ss, 1 ≤ s.2) → (spn lo nw ss).Pairwise (fun p q => p.hi < q.lo ∧ p.ls < q.nw) ∧ ∀ q ∈ spn lo nw ss, lo ≤ q.lo ∧ q.lo ≤ q.hi ∧ q.hi < lo + tks ss ∧ nw ≤ q.nw ∧ q.nw ≤ q.ls ∧ q.ls < nw + drs ss
  | [], lo, nw, _ => ⟨List.Pairwise.nil, fun q m => absurd m List.not_mem_nil⟩
  | s :: r, lo, nw, h => by
    obtain ⟨h1, h2⟩ := spn_ok r (lo + s.1) (nw + s.2) fun q m => h q (List.mem_cons_of_mem _ m)
    have hs := h s List.mem_cons_self
    have e1 : tks (s :: r) = s.1 + tks r := by
      unfold tks
      rw [List.map_cons, List.sum_cons]
    have e2 : drs (s :: r) = s.2 + drs r := by
      unfold drs
      rw [List.map_cons, List.sum_cons]
    unfold spn
    refine ⟨List.pairwise_append.mpr ⟨?_, h1, fun p mp q mq => ?_⟩, fun q m => ?_⟩
    · split
      · exact List.pairwise_singleton _ _
      · exact List.Pairwise.nil
    · have := h2 q mq
      split at mp
      · rw [List.mem_singleton.mp mp]
        dsimp only
        omega
      · exact absurd mp List.not_mem_nil
    · rw [e1, e2]
      rcases List.mem_append.mp m with m | m
      · split at m
        · rw [List.mem_singleton.mp m]
          dsimp only
          omega
        · exact absurd m List.not_mem_nil
      · have := h2 q m
        omega
theorem spn_ne : ∀ (ss : List Sti) (lo nw : Nat), 1 ≤ tks ss → spn lo nw ss ≠ []
  | [], _, _, h => absurd h (by decide)
  | s :: r, lo, nw, h => by
    have e1 : tks (s :: r) = s.1 + tks r := by
      unfold tks
      rw [List.map_cons, List.sum_cons]
    unfold spn
    by_cases c : 0 < s.1
    · rw [if_pos c]
      exact fun z => by cases z
    · have := spn_ne r (lo + s.1) (nw + s.2) (by omega)
      rw [if_neg c]
      exact this
/-- the spans of a right row -/
def spR (r : Rw) : List Spn := spn r.off 0 r.sts
theorem OkRow.sp {c : Nat} {r : Rw} (h : OkRow c r) : SpOk (spR r) r.off c (drs r.sts) := by
  have c1 : 1 ≤ c := by have := h.off; omega
  obtain ⟨h1, h2⟩ := spn_ok r.sts r.off 0 fun s m => (h.sts.ok s m).2.1
  refine ⟨h1, fun q m => ?_, spn_ne _ _ _ (by rw [h.sts.tk]; exact c1)⟩
  have := h2 q m
  rw [h.sts.tk] at this
  omega
/-- the least and the greatest of a list -/
def minL : List Int → Int
  | [] => 0
  | [a] => a
  | a :: b :: r => min a (minL (b :: r))
def maxL : List Int → Int
  | [] => 0
  | [a] => a
  | a :: b :: r => max a (maxL (b :: r))
theorem minL_ok : ∀ {l : List Int}, l ≠ [] → minL l ∈ l ∧ ∀ z ∈ l, minL l ≤ z
  | [], h => absurd rfl h
  | [a], _ => ⟨List.mem_singleton.mpr rfl, fun z m => by rw [List.mem_singleton.mp m]; exact Int.le_refl _⟩
  | a :: b :: r, _ => by
    obtain ⟨h1, h2⟩ := minL_ok (l := b :: r) (by simp)
    have e : minL (a :: b :: r) = min a (minL (b :: r)) := rfl
    rw [e]
    refine ⟨?_, fun z m => ?_⟩
    · rcases Int.le_total a (minL (b :: r)) with c | c
      · rw [Int.min_eq_left c]
        exact List.mem_cons_self
      · rw [Int.min_eq_right c]
        exact List.mem_cons_of_mem _ h1
    · rcases List.mem_cons.mp m with rfl | m
      · exact Int.min_le_left _ _
      · exact Int.le_trans (Int.min_le_right _ _) (h2 z m)
theorem maxL_ok : ∀ {l : List Int}, l ≠ [] → maxL l ∈ l ∧ ∀ z ∈ l, z ≤ maxL l
  | [], h => absurd rfl h
  | [a], _ => ⟨List.mem_singleton.mpr rfl, fun z m => by rw [List.mem_singleton.mp m]; exact Int.le_refl _⟩
  | a :: b :: r, _ => by
    obtain ⟨h1, h2⟩ := maxL_ok (l := b :: r) (by simp)
    have e : maxL (a :: b :: r) = max a (maxL (b :: r)) := rfl
    rw [e]
    refine ⟨?_, fun z m => ?_⟩
    · rcases Int.le_total a (maxL (b :: r)) with c | c
      · rw [Int.max_eq_right c]
        exact List.mem_cons_of_mem _ h1
      · rw [Int.max_eq_left c]
        exact List.mem_cons_self
    · rcases List.mem_cons.mp m with rfl | m
      · exact Int.le_max_left _ _
      · exact Int.le_trans (h2 z m) (Int.le_max_right _ _)
theorem minL_eq {l : List Int} {m : Int} (h1 : m ∈ l) (h2 : ∀ z ∈ l, m ≤ z) : m = minL l := by
  obtain ⟨a, b⟩ := minL_ok (List.ne_nil_of_mem h1)
  exact Int.le_antisymm (h2 _ a) (b _ h1)
theorem maxL_eq {l : List Int} {m : Int} (h1 : m ∈ l) (h2 : ∀ z ∈ l, z ≤ m) : m = maxL l := by
  obtain ⟨a, b⟩ := maxL_ok (List.ne_nil_of_mem h1)
  exact Int.le_antisymm (b _ h1) (h2 _ a)
def lVal (a b : Nat) (x : Int) (q : Spn) : Int := (q.lo : Int) - ((q.nw : Int) - x) / (b : Int) * (a : Int)
def rVal (a b : Nat) (x : Int) (q : Spn) : Int := (q.hi : Int) + (x - (q.ls : Int)) / (b : Int) * (a : Int)
/-- the left and the right end in the row below -/
def lE (L : List Spn) (a b : Nat) (x : Int) : Int := minL (L.map (lVal a b x))
def rE (L : List Spn) (a b : Nat) (x : Int) : Int := maxL (L.map (rVal a b x))
theorem div_iff {z k b : Int} (h : 0 < b) : z / b = k ↔ k * b ≤ z ∧ z < (k + 1) * b := by
  constructor
  · rintro rfl
    have e := Int.mul_ediv_add_emod z b
    have r0 := Int.emod_nonneg z (Int.ne_of_gt h)
    have r1 := Int.emod_lt_of_pos z h
    rw [Int.add_mul, Int.one_mul, Int.mul_comm (z / b) b]
    omega
  · rintro ⟨h1, h2⟩
    have e1 : k ≤ z / b := (Int.le_ediv_iff_mul_le h).mpr h1
    have e2 : z / b < k + 1 := (Int.ediv_lt_iff_lt_mul h).mpr h2
    omega
theorem mul_mono {k l a : Int} (ha : 0 ≤ a) (h : k ≤ l) : k * a ≤ l * a := Int.mul_le_mul_of_nonneg_right h ha
section
variable {L : List Spn} {off a b : Nat} (S : SpOk L off a b)
include S
theorem SpOk.a1 : 1 ≤ a := by
  obtain ⟨q, m⟩ := List.exists_mem_of_ne_nil _ S.ne
  have := S.ok q m
  omega
theorem SpOk.b1 : 1 ≤ b := by
  obtain ⟨q, m⟩ := List.exists_mem_of_ne_nil _ S.ne
  have := S.ok q m
  omega
/-- two spans of one repeat -/
theorem SpOk.two {p q : Spn} (hp : p ∈ L) (hq : q ∈ L) : p = q ∨ (p.hi < q.lo ∧ p.ls < q.nw) ∨ (q.hi < p.lo ∧ q.ls < p.nw) := by
  obtain ⟨i, hi⟩ := List.getElem?_of_mem hp
  obtain ⟨j, hj⟩ := List.getElem?_of_mem hq
  obtain ⟨il, ei⟩ := List.getElem?_eq_some_iff.mp hi
  obtain ⟨jl, ej⟩ := List.getElem?_eq_some_iff.mp hj
  rcases Nat.lt_trichotomy i j with c | c | c
  · have := List.pairwise_iff_getElem.mp S.ord i j il jl c
    rw [ei, ej] at this
    exact .inr (.inl this)
  · subst c
    exact .inl (ei.symm.trans ej)
  · have := List.pairwise_iff_getElem.mp S.ord j i jl il c
    rw [ei, ej] at this
    exact .inr (.inr this)
/-- the order of the spans along the ring -/
theorem SpOk.order {p q : Spn} {k l : Int} (hp : p ∈ L) (hq : q ∈ L) (h : (p.lo : Int) + k * a ≤ q.hi + l * a) : (p.lo : Int) + k * a ≤ q.lo + l * a ∧ (p.hi : Int) + k * a ≤ q.hi + l * a ∧ (p.nw : Int) + k * b ≤ q.nw + l * b ∧ (p.ls : Int) + k * b ≤ q.ls + l * b := by
  have p1 := S.ok p hp
  have q1 := S.ok q hq
  rcases Int.lt_trichotomy k l with c | c | c
  · have e1 : k * (a : Int) + a ≤ l * a := by
      have := mul_mono (a := (a : Int)) (by omega) (show k + 1 ≤ l by omega)
      rw [Int.add_mul, Int.one_mul] at this
      exact this
    have e2 : k * (b : Int) + b ≤ l * b := by
      have := mul_mono (a := (b : Int)) (by omega) (show k + 1 ≤ l by omega)
      rw [Int.add_mul, Int.one_mul] at this
      exact this
    omega
  · subst c
    rcases S.two hp hq with rfl | c | c <;> omega
  · have e1 : l * (a : Int) + a ≤ k * a := by
      have := mul_mono (a := (a : Int)) (by omega) (show l + 1 ≤ k by omega)
      rw [Int.add_mul, Int.one_mul] at this
      exact this
    omega
theorem SpOk.lval {q : Spn} (x : Int) : ∃ k : Int, lVal a b x q = q.lo + k * a ∧ x ≤ q.nw + k * b ∧ ∀ l : Int, x ≤ q.nw + l * b → k ≤ l := by
  have b0 : (0 : Int) < b := by have := S.b1; omega
  obtain ⟨h1, h2⟩ := (div_iff b0).mp (rfl : ((q.nw : Int) - x) / (b : Int) = _)
  refine ⟨-(((q.nw : Int) - x) / (b : Int)), ?_, ?_, fun l hl => ?_⟩
  · unfold lVal
    rw [Int.neg_mul]
    omega
  · rw [Int.neg_mul]
    omega
  · have h3 : -l * (b : Int) ≤ q.nw - x + 0 := by rw [Int.neg_mul]; omega
    have : -l - 1 < ((q.nw : Int) - x) / (b : Int) := by
      refine Classical.byContradiction fun z => ?_
      have := mul_mono (a := (b : Int)) (by omega) (show ((q.nw : Int) - x) / (b : Int) + 1 ≤ -l by omega)
      omega
    omega
theorem SpOk.rval {q : Spn} (x : Int) : ∃ k : Int, rVal a b x q = q.hi + k * a ∧ (q.ls : Int) + k * b ≤ x ∧ ∀ l : Int, (q.ls : Int) + l * b ≤ x → l ≤ k := by
  have b0 : (0 : Int) < b := by have := S.b1; omega
  obtain ⟨h1, h2⟩ := (div_iff b0).mp (rfl : (x - (q.ls : Int)) / (b : Int) = _)
  refine ⟨(x - (q.ls : Int)) / (b : Int), rfl, by omega, fun l hl => ?_⟩
  refine Classical.byContradiction fun z => ?_
  have := mul_mono (a := (b : Int)) (by omega) (show (x - (q.ls : Int)) / (b : Int) + 1 ≤ l by omega)
  omega
theorem SpOk.lmem (x : Int) : ∃ q ∈ L, ∃ k : Int, lE L a b x = q.lo + k * a ∧ x ≤ q.nw + k * b := by
  obtain ⟨h, _⟩ := minL_ok (l := L.map (lVal a b x)) (by simp [S.ne])
  obtain ⟨q, m, e⟩ := List.mem_map.mp h
  obtain ⟨k, h1, h2, _⟩ := S.lval (q := q) x
  exact ⟨q, m, k, e.symm.trans h1, h2⟩
theorem SpOk.lle {q : Spn} {k x : Int} (m : q ∈ L) (h : x ≤ q.nw + k * b) : lE L a b x ≤ q.lo + k * a := by
  obtain ⟨_, h2⟩ := minL_ok (l := L.map (lVal a b x)) (by simp [S.ne])
  have := h2 _ (List.mem_map_of_mem m)
  obtain ⟨l, e, _, h3⟩ := S.lval (q := q) x
  have := mul_mono (a := (a : Int)) (by omega) (h3 k h)
  show minL _ ≤ _
  omega
theorem SpOk.rmem (x : Int) : ∃ q ∈ L, ∃ k : Int, rE L a b x = q.hi + k * a ∧ (q.ls : Int) + k * b ≤ x := by
  obtain ⟨h, _⟩ := maxL_ok (l := L.map (rVal a b x)) (by simp [S.ne])
  obtain ⟨q, m, e⟩ := List.mem_map.mp h
  obtain ⟨k, h1, h2, _⟩ := S.rval (q := q) x
  exact ⟨q, m, k, e.symm.trans h1, h2⟩
theorem SpOk.rle {q : Spn} {k x : Int} (m : q ∈ L) (h : (q.ls : Int) + k * b ≤ x) : (q.hi : Int) + k * a ≤ rE L a b x := by
  obtain ⟨_, h2⟩ := maxL_ok (l := L.map (rVal a b x)) (by simp [S.ne])
  have := h2 _ (List.mem_map_of_mem m)
  obtain ⟨l, e, _, h3⟩ := S.rval (q := q) x
  have := mul_mono (a := (a : Int)) (by omega) (h3 k h)
  show _ ≤ maxL _
  omega
/-- a repeat more is a repeat more -/
theorem SpOk.lper (x k : Int) : lE L a b (x + k * b) = lE L a b x + k * a := by
  obtain ⟨q, m, l, e, h⟩ := S.lmem x
  obtain ⟨q', m', l', e', h'⟩ := S.lmem (x + k * b)
  have h1 := S.lle (k := l + k) (x := x + k * b) m (by rw [Int.add_mul]; omega)
  have h2 := S.lle (k := l' - k) (x := x) m' (by rw [Int.sub_mul]; omega)
  rw [Int.add_mul] at h1
  rw [Int.sub_mul] at h2
  omega
theorem SpOk.rper (x k : Int) : rE L a b (x + k * b) = rE L a b x + k * a := by
  obtain ⟨q, m, l, e, h⟩ := S.rmem x
  obtain ⟨q', m', l', e', h'⟩ := S.rmem (x + k * b)
  have h1 := S.rle (k := l + k) (x := x + k * b) m (by rw [Int.add_mul]; omega)
  have h2 := S.rle (k := l' - k) (x := x) m' (by rw [Int.sub_mul]; omega)
  rw [Int.add_mul] at h1
  rw [Int.sub_mul] at h2
  omega
theorem SpOk.gap (x : Int) : rE L a b x < lE L a b (x + 1) := by
  obtain ⟨q, m, k, e, h⟩ := S.rmem x
  obtain ⟨p, mp, l, ep, hp⟩ := S.lmem (x + 1)
  refine Classical.byContradiction fun z => ?_
  have o := S.order (k := l) (l := k) mp m (by omega)
  have := (S.ok q m).2.2.2
  omega
theorem SpOk.lmono {x y : Int} (h : x ≤ y) : lE L a b x ≤ lE L a b y := by
  obtain ⟨q, m, k, e, h1⟩ := S.lmem y
  rw [e]
  exact S.lle m (by omega)
theorem SpOk.rmono {x y : Int} (h : x ≤ y) : rE L a b x ≤ rE L a b y := by
  obtain ⟨q, m, k, e, h1⟩ := S.rmem x
  rw [e]
  exact S.rle m (by omega)
/-- something runs iff a stitch lies within -/
theorem SpOk.some_iff {x y : Int} : lE L a b x ≤ rE L a b y ↔ ∃ q ∈ L, ∃ k : Int, x ≤ q.nw + k * b ∧ (q.ls : Int) + k * b ≤ y := by
  constructor
  · intro h
    obtain ⟨p, mp, l, ep, hp⟩ := S.lmem x
    obtain ⟨q, m, k, e, hq⟩ := S.rmem y
    have o := S.order (k := l) (l := k) mp m (by omega)
    exact ⟨p, mp, l, hp, by omega⟩
  · rintro ⟨q, m, k, h1, h2⟩
    have := S.lle m h1
    have := S.rle m h2
    have := (S.ok q m).2.1
    omega
/-- the leftmost stitch within begins at the left end -/
theorem SpOk.lhit {x y : Int} (h : ∃ q ∈ L, ∃ k : Int, x ≤ q.nw + k * b ∧ (q.ls : Int) + k * b ≤ y) : ∃ q ∈ L, ∃ k : Int, x ≤ q.nw + k * b ∧ (q.ls : Int) + k * b ≤ y ∧ lE L a b x = q.lo + k * a := by
  obtain ⟨p, mp, l, ep, hp⟩ := S.lmem x
  obtain ⟨q, m, k, h1, h2⟩ := h
  have := S.lle m h1
  have := (S.ok q m).2.1
  have o := S.order (k := l) (l := k) mp m (by omega)
  exact ⟨p, mp, l, hp, by omega, ep⟩
theorem SpOk.rhit {x y : Int} (h : ∃ q ∈ L, ∃ k : Int, x ≤ q.nw + k * b ∧ (q.ls : Int) + k * b ≤ y) : ∃ q ∈ L, ∃ k : Int, x ≤ q.nw + k * b ∧ (q.ls : Int) + k * b ≤ y ∧ rE L a b y = q.hi + k * a := by
  obtain ⟨p, mp, l, ep, hp⟩ := S.rmem y
  obtain ⟨q, m, k, h1, h2⟩ := h
  have := S.rle m h2
  have := (S.ok q m).2.1
  have o := S.order (k := k) (l := l) m mp (by omega)
  exact ⟨p, mp, l, by omega, hp, ep⟩
end
end MZ
/-! A def held by a local name; ends row by row. -/
namespace MZ
open PySem PySem.Spec PyProof.Rows L2 LK MY
/-- a def that a local name holds is called -/
def tCallV (i : Nat) (f : Addr) (sp : Sp) (dvs : List V) (E : XK) (t : TA) : TE := fun σ H Q => σ[i]? = some (some (.ref f)) ∧ tCall sp dvs E t σ H Q
section
variable {X : Cx} {CX : CXT} {k i : Nat} {f : Addr} {fd : FuncData} {ps : List Str} {sp : Sp} {dvs : List V} {ds : List Value} {E : XK} {x : Str} {p pos : Pos} {e : Expr} {es : List Expr} {t : TA}
theorem pe_callV (F : FnOk X.prog X.w X.K X.mg X.base CX k f fd ps sp) (hr : Room k X.A) (hn : PE X (.Name x p) (tVar i)) (hk : PySem.W.keepIn X.K (.ref f) = true) (hb : Binds X.K fd ps ds) (hd : Vals dvs ds) (hx : Passes CX X E)
    (ha : PA X (e :: es) t) (he : starEach (e :: es) X.env = (false, eval e X.env) :: starEach es X.env := by rfl) (hpl : (backTo pos (starEach es X.env)).any (·.1) = false := by rfl) :
    PE X (.Call (.Name x p) (e :: es) [] pos) (tCallV i f sp dvs E t) := by
  refine ⟨fun pins s σ H Q I h => ?_⟩
  obtain ⟨hi, h⟩ := h
  refine wpAny_Call_Name_kw (thn (hn.run pins s σ H (fun v H' => v = .ref f ∧ H' = H) I ⟨_, hi, rfl, rfl⟩) fun u s1 ⟨v, H1, I1, r1, e1, e2⟩ => ?_)
  subst e1 e2
  obtain rfl : u = Value.ref f := r1
  refine PySem.W.callWith_K (h₀ := X.base) I1.ok.mod.kin hk (thn (ha.run pos pins s1 σ _ _ I1 h) fun us s2 ⟨vs, H2, I2, r, q⟩ => ⟨I2.kIn, ?_⟩) he hpl
  exact run_fn F hr hb hd hx I2 r q
end
/-! ### rows of a chart by their numbers -/
def rwAt (rs : List Rw) (i : Nat) : Rw := (rs[i]?).getD ⟨"", 0, []⟩
def cn (size : Nat) (rs : List Rw) (i : Nat) : Nat := ((cnts size rs)[i]?).getD 1
structure OkCh (size : Nat) (rs : List Rw) : Prop where
  rows : Rows size rs size
  cc : ∀ z ∈ cnts size rs, 1 ≤ z ∧ z ≤ 1000
  rl : 1 ≤ rs.length ∧ rs.length ≤ 1000
theorem OkCh.row {size : Nat} {rs : List Rw} (h : OkCh size rs) {i : Nat} (il : i < rs.length) : rs[i]? = some (rwAt rs i) ∧ OkRow (cn size rs i) (rwAt rs i) ∧ drs (rwAt rs i).sts = cn size rs (i + 1) ∧ (cnts size rs)[i]? = some (cn size rs i) ∧ (cnts size rs)[i + 1]? = some (cn size rs (i + 1)) := by
  have e : rs[i]? = some (rwAt rs i) := by
    unfold rwAt
    rw [List.getElem?_eq_getElem il]
    rfl
  obtain ⟨a, h1, h2, h3⟩ := rows_at h.rows e
  have c1 : cn size rs i = a := by unfold cn; rw [h1]; rfl
  have c2 : cn size rs (i + 1) = drs (rwAt rs i).sts := by unfold cn; rw [h2]; rfl
  rw [c1, c2]
  exact ⟨e, h3, rfl, h1, h2⟩
theorem OkCh.cn1 {size : Nat} {rs : List Rw} (h : OkCh size rs) (i : Nat) : 1 ≤ cn size rs i ∧ cn size rs i ≤ 1000 := by
  unfold cn
  cases e : (cnts size rs)[i]? with
  | none => exact ⟨Nat.le_refl _, by decide⟩
  | some a => exact h.cc a (List.mem_of_getElem? e)
theorem OkCh.wrap {size : Nat} {rs : List Rw} (h : OkCh size rs) : cn size rs rs.length = size ∧ cn size rs 0 = size := by
  constructor
  · unfold cn
    rw [cnts_end h.rows]
    rfl
  · rfl
theorem OkCh.sp {size : Nat} {rs : List Rw} (h : OkCh size rs) {i : Nat} (il : i < rs.length) : SpOk (spR (rwAt rs i)) (rwAt rs i).off (cn size rs i) (cn size rs (i + 1)) := by
  obtain ⟨_, h1, h2, _⟩ := h.row il
  rw [← h2]
  exact h1.sp
theorem OkCh.few {size : Nat} {rs : List Rw} (h : OkCh size rs) : ∀ r ∈ rs, r.sts.length ≤ 1000 := fun r m => by
  obtain ⟨i, hi⟩ := List.getElem?_of_mem m
  obtain ⟨a, c1, c2, ok⟩ := rows_at h.rows hi
  have := ok.sts.len
  have := (h.cc _ (List.mem_of_getElem? c2)).2
  omega
/-- the ends in the row below -/
def lEnd (size : Nat) (rs : List Rw) (i : Nat) (x : Int) : Int := lE (spR (rwAt rs i)) (cn size rs i) (cn size rs (i + 1)) x
def rEnd (size : Nat) (rs : List Rw) (i : Nat) (x : Int) : Int := rE (spR (rwAt rs i)) (cn size rs i) (cn size rs (i + 1)) x
/-- the next row, up or down -/
def nxR (n : Nat) (up : Bool) (i : Nat) : Nat := if up then (i + 1) % n else (i + n - 1) % n
/-- row by row -/
def walkD (n : Nat) (st : Nat → Int → Int) (up : Bool) : Nat → Nat → Int → Int
  | 0, _, x => x
  | k + 1, i, x => walkD n st up k (nxR n up i) (st i x)
def rowD (n : Nat) (up : Bool) : Nat → Nat → Nat
  | 0, i => i
  | k + 1, i => rowD n up k (nxR n up i)
theorem nxR_lt {n : Nat} (h : 0 < n) (up : Bool) (i : Nat) : nxR n up i < n := by
  unfold nxR
  split <;> exact Nat.mod_lt _ h
theorem rowD_lt {n : Nat} (up : Bool) : ∀ (k i : Nat), i < n → rowD n up k i < n
  | 0, i, h => h
  | k + 1, i, h => rowD_lt up k _ (nxR_lt (by omega) up i)
theorem rowD_up {n : Nat} : ∀ (k i : Nat), i < n → rowD n true k i = (i + k) % n
  | 0, i, h => (Nat.mod_eq_of_lt h).symm
  | k + 1, i, h => by
    have := rowD_up k (nxR n true i) (nxR_lt (by omega) _ _)
    show rowD n true k (nxR n true i) = _
    rw [this]
    unfold nxR
    rw [if_pos rfl, Nat.mod_add_mod]
    congr 1
    omega
theorem rowD_down {n : Nat} : ∀ (k i : Nat), i < n → k ≤ n → rowD n false k i = (i + n - k) % n
  | 0, i, h, _ => by
    show i = _
    rw [Nat.sub_zero, Nat.add_mod_right, Nat.mod_eq_of_lt h]
  | k + 1, i, h, hk => by
    have := rowD_down k (nxR n false i) (nxR_lt (by omega) _ _) (by omega)
    show rowD n false k (nxR n false i) = _
    rw [this]
    unfold nxR
    rw [if_neg (by decide)]
    by_cases z : i = 0
    · subst z
      rw [show 0 + n - 1 = n - 1 by omega, Nat.mod_eq_of_lt (show n - 1 < n by omega), show n - 1 + n - k = (0 + n - (k + 1)) + n by omega, Nat.add_mod_right]
    · rw [show i + n - 1 = (i - 1) + n by omega, Nat.add_mod_right, Nat.mod_eq_of_lt (show i - 1 < n by omega)]
      congr 1
      omega
theorem rowD_round {n : Nat} (up : Bool) {i : Nat} (h : i < n) : rowD n up n i = i := by
  cases up with
  | true => rw [rowD_up n i h, Nat.add_mod_right, Nat.mod_eq_of_lt h]
  | false => rw [rowD_down n i h (Nat.le_refl _), Nat.add_sub_cancel, Nat.mod_eq_of_lt h]
theorem walkD_add {n : Nat} {st : Nat → Int → Int} {up : Bool} : ∀ (k l i : Nat) (x : Int), walkD n st up (k + l) i x = walkD n st up l (rowD n up k i) (walkD n st up k i x)
  | 0, l, i, x => by rw [Nat.zero_add]; rfl
  | k + 1, l, i, x => by
    rw [show k + 1 + l = (k + l) + 1 by omega]
    exact walkD_add k l _ _
/-- a repeat more is a repeat more -/
def Per (n : Nat) (st : Nat → Int → Int) (up : Bool) (c : Nat → Nat) : Prop := ∀ i, i < n → ∀ (x k : Int), st i (x + k * c i) = st i x + k * c (nxR n up i)
theorem walkD_per {n : Nat} {st : Nat → Int → Int} {up : Bool} {c : Nat → Nat} (h : Per n st up c) : ∀ (k i : Nat) (x m : Int), i < n → walkD n st up k i (x + m * c i) = walkD n st up k i x + m * c (rowD n up k i)
  | 0, i, x, m, _ => rfl
  | k + 1, i, x, m, il => by
    show walkD n st up k (nxR n up i) (st i (x + m * c i)) = walkD n st up k (nxR n up i) (st i x) + m * c (rowD n up k (nxR n up i))
    rw [h i il x m]
    exact walkD_per h k _ _ m (nxR_lt (by omega) up i)
def itr (T : Int → Int) : Nat → Int → Int
  | 0, x => x
  | k + 1, x => itr T k (T x)
theorem itr_add (T : Int → Int) : ∀ (k l : Nat) (x : Int), itr T (k + l) x = itr T l (itr T k x)
  | 0, l, x => by rw [Nat.zero_add]; rfl
  | k + 1, l, x => by
    rw [show k + 1 + l = (k + l) + 1 by omega]
    exact itr_add T k l _
theorem itr_two (T : Int → Int) : ∀ (k : Nat) (x : Int), itr (fun y => T (T y)) k x = itr T (2 * k) x
  | 0, x => rfl
  | k + 1, x => by
    rw [show 2 * (k + 1) = 2 * k + 1 + 1 by omega]
    exact itr_two T k _
def Per1 (c : Nat) (T : Int → Int) : Prop := ∀ x k : Int, T (x + k * c) = T x + k * c
theorem Per1.two {c : Nat} {T : Int → Int} (h : Per1 c T) : Per1 c fun y => T (T y) := fun x k => by
  show T (T (x + k * c)) = _
  rw [h x k, h]
theorem walkD_round {n : Nat} {st : Nat → Int → Int} {up : Bool} {i : Nat} (il : i < n) : ∀ (t : Nat) (x : Int), walkD n st up (n * t) i x = itr (fun y => walkD n st up n i y) t x ∧ rowD n up (n * t) i = i
  | 0, x => by
    rw [Nat.mul_zero]
    exact ⟨rfl, rfl⟩
  | t + 1, x => by
    have r2 : ∀ (a b : Nat), rowD n up (a + b) i = rowD n up b (rowD n up a i) := fun a b => by
      have gen : ∀ (a b i : Nat), rowD n up (a + b) i = rowD n up b (rowD n up a i) := fun a => by
        induction a with
        | zero => intro b i; rw [Nat.zero_add]; rfl
        | succ a ih => intro b i; rw [show a + 1 + b = (a + b) + 1 by omega]; exact ih b _
      exact gen a b i
    rw [Nat.mul_succ, Nat.add_comm (n * t) n]
    constructor
    · rw [walkD_add, rowD_round up il, (walkD_round (st := st) il t _).1]
      rfl
    · rw [r2, rowD_round up il, (walkD_round (st := st) il t x).2]
theorem round_per {n : Nat} {st : Nat → Int → Int} {up : Bool} {c : Nat → Nat} (h : Per n st up c) {i : Nat} (il : i < n) : Per1 (c i) fun y => walkD n st up n i y := fun x k => by
  have := walkD_per h n i x k il
  rw [rowD_round up il] at this
  exact this
/-- any number of rows: whole rounds, and the rest -/
theorem walkD_far {n : Nat} {st : Nat → Int → Int} {up : Bool} {i : Nat} (il : i < n) (t r : Nat) (x : Int) : walkD n st up (n * t + r) i x = walkD n st up r i (itr (fun y => walkD n st up n i y) t x) := by
  rw [walkD_add, (walkD_round (st := st) il t x).1, (walkD_round (st := st) il t x).2]
theorem lEnd_per {size : Nat} {rs : List Rw} (h : OkCh size rs) : Per rs.length (lEnd size rs) false (fun i => cn size rs (i + 1)) := fun i il x k => by
  unfold lEnd
  rw [(h.sp il).lper x k]
  congr 3
  unfold nxR
  rw [if_neg (by decide)]
  by_cases z : i = 0
  · subst z
    rw [show 0 + rs.length - 1 = rs.length - 1 by omega, Nat.mod_eq_of_lt (show rs.length - 1 < rs.length by omega)]
    show cn size rs 0 = cn size rs (rs.length - 1 + 1)
    rw [show rs.length - 1 + 1 = rs.length by omega, h.wrap.1, h.wrap.2]
  · rw [show i + rs.length - 1 = (i - 1) + rs.length by omega, Nat.add_mod_right, Nat.mod_eq_of_lt (show i - 1 < rs.length by omega)]
    show cn size rs i = cn size rs (i - 1 + 1)
    rw [show i - 1 + 1 = i by omega]
theorem rEnd_per {size : Nat} {rs : List Rw} (h : OkCh size rs) : Per rs.length (rEnd size rs) false (fun i => cn size rs (i + 1)) := fun i il x k => by
  unfold rEnd
  rw [(h.sp il).rper x k]
  congr 3
  unfold nxR
  rw [if_neg (by decide)]
  by_cases z : i = 0
  · subst z
    rw [show 0 + rs.length - 1 = rs.length - 1 by omega, Nat.mod_eq_of_lt (show rs.length - 1 < rs.length by omega)]
    show cn size rs 0 = cn size rs (rs.length - 1 + 1)
    rw [show rs.length - 1 + 1 = rs.length by omega, h.wrap.1, h.wrap.2]
  · rw [show i + rs.length - 1 = (i - 1) + rs.length by omega, Nat.add_mod_right, Nat.mod_eq_of_lt (show i - 1 < rs.length by omega)]
    show cn size rs i = cn size rs (i - 1 + 1)
    rw [show i - 1 + 1 = i by omega]
end MZ
/-! for i in range(a, b) for whole numbers of any size. -/
namespace MZ
open PySem PySem.Spec PyProof.Rows L2 LK
theorem turn_long {P : Program} {w : World} {K : PySem.W.Frag} {tg : Expr} (it : Addr) (lo : Int) (n : Nat) : Turn P w K tg (Itr lo n) [it] it (fun i h => IsLongIter h it (lo + (i : Nat) * 1) ((n : Int) - (i : Nat)) 1) where
  mem := by simp
  obj := fun i h st b hb => by
    have e : b = it := by simpa using hb
    subst e
    exact ⟨_, st, fun v z => by
      have z' : Data.fields _ = Data.cell v := z
      cases z'⟩
  keep := fun i h h' st k => k it (by simp) _ st
  item := by
    intro X hP hw hK hc i pins s σ H E I hf st hg
    subst hP hw hK
    obtain ⟨f0, f1, f2, f3, f4, f5⟩ := hf it (by simp)
    have W := Walks.longrange (prog := X.prog) (w := X.w) (I.ok.hd hc) it lo 1 n
    refine W.item i s _ _ hg st fun v h' tk hv st' kk => ?_
    obtain ⟨t, rfl⟩ := hv
    have I1 : Inv X pins σ H { s with heap := h', toks := tk } := I.turned (fun b o hb e => kk b o (by simpa using hb) e) f0 f1 f3 f4 f5
    refine ⟨_, rfl, go_of (s := { s with heap := h', toks := tk }) (n := "longrange_iterator") st' rfl rfl (by decide) ⟨.int (lo + i), H, I1, ⟨t, ?_⟩, ⟨rfl, rfl⟩, st', fun b hb => (hf b hb).1⟩⟩
    rw [Int.mul_one]
  done := by
    intro X hP hw hK hc i pins s σ H E I hf st hg
    subst hP hw hK
    obtain ⟨f0, f1, f2, f3, f4, f5⟩ := hf it (by simp)
    exact wpAny_pyNext_long_end (I.ok.hd hc) st (by have : n ≤ i := hg; omega) fun h' eb => ⟨rfl, I.turned (t' := s.toks) (fun b o hb e => eb b o hb e) f0 f1 f3 f4 f5⟩
  self := fun _ _ _ _ _ st h => wpAny_pyIter_longiter st h
section
variable {X : Cx} {tg : Expr}
theorem range_itA {pins : List (Addr × Obj)} {σ : L2.St} {H : Hp} {s : Shared} {R : It → Hp → Prop} {E : Value → Shared → Prop} {lo hi : Int} {t u v : Tok} {tk : Nat} (I : Inv X pins σ H s)
    (q : R (Itr lo (hi - lo).toNat) H) : wpAny (model X.prog X.w) X.A (pyIter (.ref s.heap.objs.size)) (PIE X pins σ tg R) E { s with heap := s.heap.push { cls := .type "range", data := .fields #[.int lo t, .int hi u, .int 1 v] }, toks := tk } := by
  have I1 : Inv X pins σ H { s with heap := s.heap.push { cls := .type "range", data := .fields #[.int lo t, .int hi u, .int 1 v] }, toks := tk } := I.kept fun b o e => Heap.get?_push_of_some _ e
  cases sm : Builtin.Range.small lo hi 1 with
  | true =>
    refine wpAny_pyIter_range (IsRange.new ..) sm ?_
    refine ⟨(s.heap.push { cls := .type "range", data := .fields #[.int lo t, .int hi u, .int 1 v] }).objs.size, [(s.heap.push { cls := .type "range", data := .fields #[.int lo t, .int hi u, .int 1 v] }).objs.size], _, _, H, rfl,
      I1.kept (t' := tk) fun b o e => Heap.get?_push_of_some _ e, turn_range _ lo (hi - lo).toNat, ?_, fun b hb => ?_, q⟩
    · have e1 : lo + ((0 : Nat) : Int) * 1 = lo := by simp
      have e2 : (((hi - lo).toNat : Nat) : Int) - ((0 : Nat) : Int) = Builtin.Range.rangeSize lo hi 1 := by rw [rangeSize_one]; split <;> omega
      show IsRangeIter _ _ (lo + ((0 : Nat) : Int) * 1) ((((hi - lo).toNat : Nat) : Int) - ((0 : Nat) : Int)) 1
      rw [e1, e2]
      exact Heap.get?_push_size _ rfl
    · have e : b = (s.heap.push { cls := .type "range", data := .fields #[.int lo t, .int hi u, .int 1 v] }).objs.size := by simpa using hb
      subst e
      exact I1.fpOk (Nat.le_refl _) (I1.hok.fresh (Nat.le_refl _))
  | false =>
    refine wpAny_pyIter_longrange (IsRange.new ..) sm ?_
    refine ⟨(s.heap.push { cls := .type "range", data := .fields #[.int lo t, .int hi u, .int 1 v] }).objs.size, [(s.heap.push { cls := .type "range", data := .fields #[.int lo t, .int hi u, .int 1 v] }).objs.size], _, _, H, rfl,
      I1.kept (t' := tk) fun b o e => Heap.get?_push_of_some _ e, turn_long _ lo (hi - lo).toNat, ?_, fun b hb => ?_, q⟩
    · have e1 : lo + ((0 : Nat) : Int) * 1 = lo := by simp
      have e2 : (((hi - lo).toNat : Nat) : Int) - ((0 : Nat) : Int) = Builtin.Range.rangeSize lo hi 1 := by rw [rangeSize_one]; split <;> omega
      show IsLongIter _ _ (lo + ((0 : Nat) : Int) * 1) ((((hi - lo).toNat : Nat) : Int) - ((0 : Nat) : Int)) 1
      rw [e1, e2]
      exact Heap.get?_push_size _ rfl
    · have e : b = (s.heap.push { cls := .type "range", data := .fields #[.int lo t, .int hi u, .int 1 v] }).objs.size := by simpa using hb
      subst e
      exact I1.fpOk (Nat.le_refl _) (I1.hok.fresh (Nat.le_refl _))
def iRngA (ta : TA) : TI := fun σ H R => ta σ H fun vs H1 => ∃ i j : Int, vs = [.int i, .int j] ∧ R (Itr i (j - i).toNat) H1
theorem pi_range2A {a b : Expr} {ta : TA} {p pos : Pos} (hg : Gl X "range") (hm : X.mg "range" = none) (ha : PA X [a, b] ta) (hs : starEach [a, b] X.env = [(false, eval a X.env), (false, eval b X.env)] := by rfl) (hs2 : starEach [b] X.env = [(false, eval b X.env)] := by rfl) :
    PI X tg (.Call (.Name "range" p) [a, b] [] pos) (iRngA ta) := by
  refine ⟨fun pins s σ H R I h => ?_⟩
  refine Call_ (ld_blt I hg hm boot_range (PyProof.Rows.callWith_type1 (thn (ha.run pos pins s σ H _ I h) fun us s1 ⟨vs, H1, I1, r1, q1⟩ => ?_) (by rw [hs, hs2]) (by rw [hs2]; rfl)))
  obtain ⟨i, j, e, q⟩ := q1
  subst e
  cases r1 with
  | cons r rr =>
    cases rr with
    | cons r' rr =>
      cases rr
      obtain ⟨t, rfl⟩ := r
      obtain ⟨t', rfl⟩ := r'
      exact call_range_2 (range_itA I1 q)
end
end MZ
/-! The mathematics of the marks of a row. -/
namespace MZ
open PySem PySem.Spec PyProof.Rows L2 LK MY
/-- a stitch at its place: its first loop, how many it takes, its first new loop, how many it draws -/
structure Mrk where
  nr : Nat
  mn : Nat
  fr : Nat
  md : Nat
def mks : Nat → Nat → List Sti → List Mrk
  | _, _, [] => []
  | nr, fr, s :: r => ⟨nr, s.1, fr, s.2⟩ :: mks (nr + s.1) (fr + s.2) r
def mkD (m : Mrk) : PyData := .tuple [.int (m.nr : Int), .int (m.mn : Int), .int (m.fr : Int), .int (m.md : Int)]
theorem noLs_mkD (qs : List Mrk) : noLs (qs.map mkD) = true := noLs_iff.mpr fun d hd => by
  obtain ⟨s, _, rfl⟩ := List.mem_map.mp hd
  rfl
theorem mk_tup {K : PySem.W.Frag} {H : Hp} {v : V} {q : Mrk} (h : Dp K H v (mkD q)) : ∃ a, v = .ref a ∧ SqT K H a [.int (q.nr : Int), .int (q.mn : Int), .int (q.fr : Int), .int (q.md : Int)] := by
  cases h with
  | tup q' r =>
    obtain rfl := ints_back (ns := [(q.nr : Int), (q.mn : Int), (q.fr : Int), (q.md : Int)]) r
    exact ⟨_, rfl, q'⟩
theorem mks_len : ∀ (ss : List Sti) (nr fr : Nat), (mks nr fr ss).length = ss.length
  | [], _, _ => rfl
  | s :: r, nr, fr => by
    unfold mks
    rw [List.length_cons, List.length_cons, mks_len r]
theorem mks_take : ∀ (ss : List Sti) (nr fr k : Nat), (mks nr fr ss).take k = mks nr fr (ss.take k)
  | [], _, _, k => by rw [List.take_nil]; exact List.take_nil
  | s :: r, nr, fr, 0 => rfl
  | s :: r, nr, fr, k + 1 => by
    show _ :: (mks _ _ r).take k = _
    rw [mks_take r]
    rfl
theorem mks_app : ∀ (a b : List Sti) (nr fr : Nat), mks nr fr (a ++ b) = mks nr fr a ++ mks (nr + tks a) (fr + drs a) b
  | [], b, nr, fr => rfl
  | s :: a, b, nr, fr => by
    have := mks_app a b (nr + s.1) (fr + s.2)
    show _ :: mks _ _ (a ++ b) = _ :: mks _ _ a ++ _
    rw [this]
    have e1 : nr + s.1 + tks a = nr + tks (s :: a) := by
      unfold tks
      rw [List.map_cons, List.sum_cons]
      omega
    have e2 : fr + s.2 + drs a = fr + drs (s :: a) := by
      unfold drs
      rw [List.map_cons, List.sum_cons]
      omega
    rw [e1, e2]
    rfl
def spM (off : Nat) (m : Mrk) : Spn := ⟨off + m.nr, off + m.nr + m.mn - 1, m.fr, m.fr + m.md - 1⟩
theorem spn_mks (off : Nat) : ∀ (ss : List Sti) (nr fr : Nat), spn (off + nr) fr ss = ((mks nr fr ss).filter fun m => decide (0 < m.mn)).map (spM off)
  | [], _, _ => rfl
  | s :: r, nr, fr => by
    have := spn_mks off r (nr + s.1) (fr + s.2)
    unfold spn mks
    rw [show off + nr + s.1 = off + (nr + s.1) by omega, this]
    by_cases c : 0 < s.1
    · rw [if_pos c, List.filter_cons_of_pos (by exact decide_eq_true c)]
      show [_] ++ _ = spM off _ :: _
      unfold spM
      rw [List.singleton_append, show off + nr + s.1 = off + (nr + s.1) by omega]
    · rw [if_neg c, List.filter_cons_of_neg (by simpa using c)]
      rfl
def mkR (r : Rw) : List Mrk := mks 0 0 r.sts
theorem spR_mks (r : Rw) : spR r = ((mkR r).filter fun m => decide (0 < m.mn)).map (spM r.off) := spn_mks r.off r.sts 0 0
theorem mks_ord : ∀ (ss : List Sti) (nr fr : Nat), (∀ s ∈ ss, 1 ≤ s.2) → (mks nr fr ss).Pairwise (fun p q => p.fr + p.md ≤ q.fr ∧ p.nr + p.mn ≤ q.nr) ∧ ∀ m ∈ mks nr fr ss, fr ≤ m.fr ∧ nr ≤ m.nr ∧ 1 ≤ m.md ∧ m.fr + m.md ≤ fr + drs ss ∧ m.nr + m.mn ≤ nr + tks ss
  | [], _, _, _ => ⟨List.Pairwise.nil, fun m h => absurd h List.not_mem_nil⟩
  | s :: r, nr, fr, h => by
    obtain ⟨h1, h2⟩ := mks_ord r (nr + s.1) (fr + s.2) fun q m => h q (List.mem_cons_of_mem _ m)
    have hs := h s List.mem_cons_self
    have e1 : tks (s :: r) = s.1 + tks r := by
      unfold tks
      rw [List.map_cons, List.sum_cons]
    have e2 : drs (s :: r) = s.2 + drs r := by
      unfold drs
      rw [List.map_cons, List.sum_cons]
    unfold mks
    refine ⟨List.pairwise_cons.mpr ⟨fun q mq => ?_, h1⟩, fun m hm => ?_⟩
    · have := h2 q mq
      dsimp only
      omega
    · rw [e1, e2]
      rcases List.mem_cons.mp hm with rfl | hm
      · dsimp only
        omega
      · have := h2 m hm
        omega
/-- a stitch that takes something is a span -/
theorem mk_sp {r : Rw} {m : Mrk} (h : m ∈ mkR r) (c : 0 < m.mn) : spM r.off m ∈ spR r := by
  rw [spR_mks]
  exact List.mem_map_of_mem (List.mem_filter.mpr ⟨h, decide_eq_true c⟩)
theorem sp_mk {r : Rw} {q : Spn} (h : q ∈ spR r) : ∃ m ∈ mkR r, 0 < m.mn ∧ q = spM r.off m := by
  rw [spR_mks] at h
  obtain ⟨m, hm, e⟩ := List.mem_map.mp h
  exact ⟨m, (List.mem_filter.mp hm).1, of_decide_eq_true (List.mem_filter.mp hm).2, e.symm⟩
theorem OkRow.mrk {c : Nat} {r : Rw} (h : OkRow c r) : (mkR r).Pairwise (fun p q => p.fr + p.md ≤ q.fr ∧ p.nr + p.mn ≤ q.nr) ∧ ∀ m ∈ mkR r, 1 ≤ m.md := by
  obtain ⟨h1, h2⟩ := mks_ord r.sts 0 0 fun s m => (h.sts.ok s m).2.1
  exact ⟨h1, fun m hm => (h2 m hm).2.2.1⟩
/-- what begins ahead stands ahead -/
theorem mk_before {l : List Mrk} (h : l.Pairwise fun p q => p.fr + p.md ≤ q.fr ∧ p.nr + p.mn ≤ q.nr) (h1 : ∀ m ∈ l, 1 ≤ m.md) {i j : Nat} {p q : Mrk} (hi : l[i]? = some p) (hj : l[j]? = some q) (lt : p.fr < q.fr) : i < j := by
  obtain ⟨il, ei⟩ := List.getElem?_eq_some_iff.mp hi
  obtain ⟨jl, ej⟩ := List.getElem?_eq_some_iff.mp hj
  rcases Nat.lt_trichotomy i j with c | c | c
  · exact c
  · subst c
    rw [ei] at ej
    rw [ej] at lt
    omega
  · have := List.pairwise_iff_getElem.mp h j i jl il c
    rw [ei, ej] at this
    have := h1 q (List.mem_of_getElem? hj)
    omega
theorem dps_rev {K : PySem.W.Frag} {H : Hp} : ∀ {vs : List V} {ds : List PyData}, DpAll K H vs ds → DpAll K H vs.reverse ds.reverse
  | _, _, .nil => .nil
  | _, _, .cons a r => by
    rw [List.reverse_cons, List.reverse_cons]
    exact dps_app (dps_rev r) (.cons a .nil)
/-- a statement that may return -/
theorem stR {t : TS} {D : Ends} {σ : L2.St} {H : Hp} (R : L2.St → Hp → Prop) (h : ∀ D' : Ends, (∀ v H', D.rt v H' → D'.rt v H') → (∀ σ' H', R σ' H' → D'.nx σ' H') → t D' σ H) (q : ∀ σ' H', R σ' H' → D.nx σ' H') : t D σ H := h D (fun _ _ z => z) q
theorem sl_tupK {X : Cx} {K : PySem.W.Frag} (e : X.K = K := by rfl) : SlR X (rSlT K) := e ▸ sl_tup
section
variable {L : List Spn} {off a b : Nat} (S : SpOk L off a b)
include S
/-- the first one of this lap -/
theorem SpOk.low_here {q : Spn} {x : Int} (m : q ∈ L) (h : x ≤ q.nw + x / (b : Int) * b) (f : ∀ p ∈ L, p.nw < q.nw → (p.nw : Int) + x / (b : Int) * b < x) : lE L a b x = q.lo + x / (b : Int) * a := by
  have b0 : (0 : Int) < b := by have := S.b1; omega
  have h1 := S.lle m h
  obtain ⟨p, mp, k, e, hp⟩ := S.lmem x
  obtain ⟨d1, d2⟩ := (div_iff b0).mp (rfl : x / (b : Int) = _)
  rw [Int.add_mul, Int.one_mul] at d2
  have pb := S.ok p mp
  have qb := S.ok q m
  have kl : x / (b : Int) ≤ k := by
    refine Classical.byContradiction fun z => ?_
    have := mul_mono (a := (b : Int)) (by omega) (show k + 1 ≤ x / (b : Int) by omega)
    rw [Int.add_mul, Int.one_mul] at this
    omega
  by_cases kk : k = x / (b : Int)
  · subst kk
    rcases S.two mp m with rfl | c | c
    · omega
    · have := f p mp (by omega)
      omega
    · omega
  · have := mul_mono (a := (a : Int)) (by omega) (show x / (b : Int) + 1 ≤ k by omega)
    rw [Int.add_mul, Int.one_mul] at this
    omega
/-- none of this lap: the first one of the next -/
theorem SpOk.low_next {q : Spn} {x : Int} (m : q ∈ L) (first : ∀ p ∈ L, q.lo ≤ p.lo) (f : ∀ p ∈ L, (p.nw : Int) + x / (b : Int) * b < x) : lE L a b x = q.lo + (x / (b : Int) + 1) * a := by
  have b0 : (0 : Int) < b := by have := S.b1; omega
  obtain ⟨d1, d2⟩ := (div_iff b0).mp (rfl : x / (b : Int) = _)
  have h1 := S.lle (k := x / (b : Int) + 1) m (x := x) (by omega)
  obtain ⟨p, mp, k, e, hp⟩ := S.lmem x
  have pb := S.ok p mp
  have fp := f p mp
  have lo := first p mp
  have kl : x / (b : Int) + 1 ≤ k := by
    refine Classical.byContradiction fun z => ?_
    have := mul_mono (a := (b : Int)) (by omega) (show k ≤ x / (b : Int) by omega)
    omega
  have := mul_mono (a := (a : Int)) (by omega) kl
  omega
/-- the last one of this lap -/
theorem SpOk.high_here {q : Spn} {x : Int} (m : q ∈ L) (h : (q.ls : Int) + x / (b : Int) * b ≤ x) (f : ∀ p ∈ L, q.ls < p.ls → x < (p.ls : Int) + x / (b : Int) * b) : rE L a b x = q.hi + x / (b : Int) * a := by
  have b0 : (0 : Int) < b := by have := S.b1; omega
  have h1 := S.rle m h
  obtain ⟨p, mp, k, e, hp⟩ := S.rmem x
  obtain ⟨d1, d2⟩ := (div_iff b0).mp (rfl : x / (b : Int) = _)
  rw [Int.add_mul, Int.one_mul] at d2
  have pb := S.ok p mp
  have qb := S.ok q m
  have kl : k ≤ x / (b : Int) := by
    refine Classical.byContradiction fun z => ?_
    have := mul_mono (a := (b : Int)) (by omega) (show x / (b : Int) + 1 ≤ k by omega)
    rw [Int.add_mul, Int.one_mul] at this
    omega
  by_cases kk : k = x / (b : Int)
  · subst kk
    rcases S.two mp m with rfl | c | c
    · omega
    · omega
    · have := f p mp (by have := S.ok p mp; omega)
      omega
  · have := mul_mono (a := (a : Int)) (by omega) (show k + 1 ≤ x / (b : Int) by omega)
    rw [Int.add_mul, Int.one_mul] at this
    omega
/-- none of this lap: the last one of the lap ahead -/
theorem SpOk.high_next {q : Spn} {x : Int} (m : q ∈ L) (last : ∀ p ∈ L, p.hi ≤ q.hi) (f : ∀ p ∈ L, x < (p.ls : Int) + x / (b : Int) * b) : rE L a b x = q.hi + (x / (b : Int) - 1) * a := by
  have b0 : (0 : Int) < b := by have := S.b1; omega
  obtain ⟨d1, d2⟩ := (div_iff b0).mp (rfl : x / (b : Int) = _)
  have qb := S.ok q m
  have h1 := S.rle (k := x / (b : Int) - 1) m (x := x) (by rw [Int.sub_mul, Int.one_mul]; omega)
  obtain ⟨p, mp, k, e, hp⟩ := S.rmem x
  have pb := S.ok p mp
  have fp := f p mp
  have lo := last p mp
  have kl : k ≤ x / (b : Int) - 1 := by
    refine Classical.byContradiction fun z => ?_
    have := mul_mono (a := (b : Int)) (by omega) (show x / (b : Int) ≤ k by omega)
    omega
  have := mul_mono (a := (a : Int)) (by omega) kl
  omega
/-- a wide stretch has something below -/
theorem SpOk.wide {x y : Int} (h : x + 2 * b ≤ y) : lE L a b x ≤ rE L a b y := by
  have b0 : (0 : Int) < b := by have := S.b1; omega
  obtain ⟨q, m⟩ := List.exists_mem_of_ne_nil _ S.ne
  have qb := S.ok q m
  obtain ⟨d1, d2⟩ := (div_iff b0).mp (rfl : x / (b : Int) = _)
  refine S.some_iff.mpr ⟨q, m, x / (b : Int) + 1, by omega, ?_⟩
  rw [Int.add_mul, Int.one_mul] at d2 ⊢
  omega
end
end MZ
/-! sums, marks, spots -/
namespace T6
open PySem PySem.Spec PyProof.Rows L2 LK MXi MY MZ
theorem Plan.same {K : PySem.W.Frag} {H H' : Hp} {t Ld : Addr} {xs : List V} {size : Nat} {rs : List Rw} (h : Plan K H t Ld xs size rs) (s : Same H H') : Plan K H' t Ld xs size rs := ⟨s _ _ h.et, s _ _ h.eL, dps_same s h.dL, h.rows⟩
theorem Plan.bt {K : PySem.W.Frag} {H H' : Hp} {c t Ld : Addr} {B : Nat} {xs : List V} {size : Nat} {rs : List Rw} (h : Plan K H t Ld xs size rs) (hc : CR H c B) (n : Ld ≠ c) (s : Bt c H H') : Plan K H' t Ld xs size rs := ⟨Tl.bt hc s _ _ (fun _ z => by cases z) h.et, s _ _ n h.eL, dps_tl (Tl.bt hc s) (noLs_rws rs) h.dL, h.rows⟩
theorem rw_tup {K : PySem.W.Frag} {H : Hp} {v : V} {r : Rw} (h : Dp K H v (rwD r)) : ∃ (ax b : Addr) (ws : List V), v = .ref ax ∧ SqT K H ax [.str r.nm, .int (r.off : Int), .ref b] ∧ SqT K H b ws ∧ DpAll K H ws (r.sts.map stD) := by
  cases h with
  | tup q dx =>
    cases dx with
    | cons d1 dx =>
      cases d1
      cases dx with
      | cons d2 dx =>
        cases d2
        cases dx with
        | cons d3 dx =>
          cases dx
          cases d3 with
          | tup q2 r2 => exact ⟨_, _, _, rfl, q, q2, r2⟩
def spSum (K : PySem.W.Frag) : Sp := fun vs H Q _ => ∃ (t Ld : Addr) (xs : List V) (size : Nat) (rs : List Rw), vs = [.ref t] ∧ Plan K H t Ld xs size rs ∧ (rs.length ≤ 1000 ∧ ∀ r ∈ rs, r.sts.length ≤ 1000) ∧ ∀ (p : Addr) (H' : Hp), H p = none → Same H H' → H' p = some (.lst (nI (cnts size rs))) → Q (.ref p) H'
def spMks (K : PySem.W.Frag) : Sp := fun vs H Q _ => ∃ (v : V) (r : Rw), vs = [v] ∧ Dp K H v (rwD r) ∧ r.sts.length ≤ 1000 ∧ ∀ (p : Addr) (H' : Hp) (zs : List V), H p = none → Same H H' → H' p = some (.lst zs) → DpAll K H' zs ((mkR r).map mkD) → Q (.ref p) H'
def spSpo (K : PySem.W.Frag) : Sp := fun vs H Q _ => ∃ (c t Ld : Addr) (xs : List V) (size : Nat) (rs : List Rw) (B : Nat), vs = [.ref c, .ref t] ∧ Plan K H t Ld xs size rs ∧ 1 ≤ rs.length ∧ rs.length ≤ 1000 ∧ CR H c B ∧ B + 10 < 10 ^ 12 ∧ ∀ (p : Addr) (H' : Hp) (i : Nat) (z : Int), CR H' c (B + 10) → Bt c H H' → H' p = some (.tup [.int i, .int z]) → i < rs.length → Q (.ref p) H'
section
variable {P : Program} {w : World} {K : PySem.W.Frag} {mg : Str → Option Value} {base : Heap}
abbrev sSum : Stmt := top 41
theorem scSum : FnScope ["plan", "found", "line", "part"] ["plan"] (defScope sSum) := ⟨rfl, rfl, rfl, by decide +kernel, rfl, by decide +kernel, by decide +kernel⟩
theorem ok_Sum {f : Addr} {fd : FuncData} (F : Fun K "_law_sums" "_law_sums" sSum f fd) (B : Bl mg) : FnOk P w K mg base CX0 1 f fd ["plan"] (spSum K) := by
  refine F.ok scSum (fun vs H Q E h => ?_) (fun cdv A outer s H vs Q E hr h => ?_)
  · obtain ⟨t, Ld, xs, size, rs, rfl, _⟩ := h
    rfl
  · obtain ⟨t, Ld, xs, size, rs, rfl, pl, few, k⟩ := h
    refine ⟨_, pss_cons (ps_set (i := 1) scSum.nd rfl (Or.inl rfl) (pe_lst (pa_cons (pe_ix (ixt (K := K)) (pv 0) pe_int (fun _ _ => rfl)) pa_nil)))
      (pss_cons (ps_for PassesOwn.never rfl (pi_list (pe_ix (ixt (K := K)) (pv 0) pe_int (fun _ _ => rfl))) (pg_name (i := 2) scSum.nd rfl (Or.inl rfl)) (pss_one (ps_expr (pe_bm PySem.F.plainAttrs_list PySem.F.slot_list_append PySem.F.type_list_append mt_append (pv 1) (pa_cons (pe_callB (cr_sum rfl) (by rfl) (B "sum" (by decide)) (by decide +kernel) (pa_cons (pe_lc (own := [("part", 3)]) (g := gName 3) (tt := tYes) rfl scSum.nd (pi_tup (pe_ix (ixt (K := K)) (pv 2) pe_int (fun _ _ => rfl))) (blkOk_by (N := ["plan", "found", "line", "part"]) (sc := defScope sSum) (by decide +kernel)) (fun _ _ _ _ _ => pg_name (i := 3) scSum.nd rfl (Or.inl rfl)) (fun _ _ _ _ _ => pts_nil) (fun _ _ _ _ _ => pe_ix (ixt (K := K)) (pv 3) pe_int (fun _ _ => rfl))) pa_nil)) pa_nil)))))
      (pss_one (ps_ret (pv 1)))), ?_⟩
    have ty2 : sizeLine = 16777216 := sizeLine_eq
    have xl := dps_len pl.dL
    rw [List.length_map] at xl
    refine ⟨_, rfl, t, _, 0, _, rfl, rfl, SqT.of pl.et, atI_nat (j := 0) rfl, by show 1 ≤ sizeLine; decide, fun D nD => ?_⟩
    have t1 := same_new (o := .lst [.int (size : Int)]) nD
    dsimp only [gName, List.set, tSeq]
    refine ⟨_, rfl, t, _, 1, _, rfl, rfl, SqT.of (t1 _ _ pl.et), atI_nat (j := 1) rfl, Ld, rfl, ⟨_, SqL.of (t1 _ _ pl.eL)⟩, ?_⟩
    refine for_list (K := K) (a := Ld) (xs := xs) (fun i σ Hn => ∃ (o2 o3 : Option V), σ = [some (.ref t), some (.ref D), o2, o3] ∧ Same H Hn ∧ Hn D = some (.lst (nI ((cnts size rs).take (i + 1)))))
      ⟨_, _, rfl, t1, upd_same⟩ (fun i σ Hn hi hI => by obtain ⟨_, _, _, s, _⟩ := hI; exact SqL.of (s _ _ pl.eL)) (fun i x σ Hn hx hI => ?_) (fun σ Hn hI => ?_)
    · obtain ⟨o2, o3, rfl, s, eD⟩ := hI
      have il := (List.getElem?_eq_some_iff.mp hx).1
      obtain ⟨r, hr'⟩ : ∃ r, rs[i]? = some r := ⟨_, List.getElem?_eq_getElem (by omega)⟩
      obtain ⟨a, c1, c2, okr⟩ := rows_at pl.rows hr'
      obtain ⟨ax, b, ws, rfl, hax, hw, dw⟩ := rw_tup (dp_same s (dps_get pl.dL hx (by rw [List.getElem?_map, hr']; rfl)))
      have wl := dps_len dw
      rw [List.length_map] at wl
      have fw := few.2 r (List.mem_of_getElem? hr')
      have tk2 : (cnts size rs).take (i + 1 + 1) = (cnts size rs).take (i + 1) ++ [drs r.sts] := by
        rw [List.take_add_one, c2]
        rfl
      dsimp only [gName, List.set, tSeq]
      have ez : (ws.zip r.sts).map (fun z => z.1) = ws := by rw [show (fun z : V × Sti => z.1) = Prod.fst from rfl, List.map_fst_zip (by omega)]
      refine ⟨_, rfl, .inl ⟨rfl, _, SqL.of eD⟩, ?_⟩
      refine ⟨_, rfl, ax, _, 2, _, rfl, rfl, hax, atI_nat (j := 2) rfl, b, rfl, ⟨_, by rw [← ez] at hw; exact hw⟩, fun M nM => ?_⟩
      refine lcf_tup (ns := ws.zip r.sts) (c := fun z : V × Sti => z.1) (fun _ => true) (fun z => V.int (z.2.2 : Int)) (by rw [ez]; exact hw) nM (by rw [List.length_zip]; omega) (fun j z H4 yes no hz s4 y n => ⟨rfl, ?_⟩) (fun H4 s4 eM => ?_)
      · obtain ⟨z1, z2⟩ := List.getElem?_zip_eq_some.mp hz
        obtain ⟨q, e1, q1⟩ := st_tup (dp_same s4 (dps_get dw z1 (by rw [List.getElem?_map, z2]; rfl)))
        rw [e1]
        exact ⟨_, rfl, q, _, 1, _, rfl, rfl, q1, atI_nat (j := 1) rfl, y rfl _ (Same.refl _)⟩
      have tm : ((ws.zip r.sts).filter fun _ => true).map (fun z => V.int (z.2.2 : Int)) = (r.sts.map fun s => (s.2 : Int)).map V.int := by
        rw [List.filter_eq_self.mpr (fun _ _ => rfl), List.map_map]
        conv => rhs; rw [← List.map_snd_zip (l₁ := ws) (l₂ := r.sts) (by omega), List.map_map]
        rfl
      rw [tm] at eM
      have eD4 := s4 _ _ eD
      have cl := cnts_len size rs
      refine ⟨M, _, rfl, SqL.of eM, D, _, _, rfl, rfl, eD4, by rw [List.length_map, List.length_take]; omega, ?_⟩
      rw [sum_drs]
      refine ⟨_, _, rfl, fun b' o e => ?_, ?_⟩
      · rw [upd_ne (ne_of_none e nD)]
        exact (s.trans s4) _ _ e
      · rw [upd_same, tk2, nI_app]
        rfl
    · obtain ⟨o2, o3, rfl, s, eD⟩ := hI
      rw [List.take_of_length_le (by rw [cnts_len]; omega)] at eD
      exact ⟨_, rfl, k D Hn nD s eD⟩
end
end T6
/-! Chart.__eq__, great draws -/
namespace T6
open PySem PySem.Spec PyProof.Rows L2 LK MXi MY MZ
theorem sh_lay {d : PyData} (h : SeqAt.shaped d = true) : d.canLay0 = true := by
  have : (d.canLay0 && decide (d.depth ≤ 64)) = true := h
  rw [Bool.and_eq_true] at this
  exact this.1
theorem sh_nats (ks : List Nat) : SeqAt.shaped (.list (ks.map fun k : Nat => PyData.int (k : Int))) = true := by
  have := sh_ints (ks.map fun k : Nat => (k : Int))
  rw [List.map_map] at this
  exact this
theorem lay_st (ss : List Sti) : PyData.canLayAll0 (ss.map stD) = true ∧ PyData.depthAll (ss.map stD) ≤ 1 := ⟨layAll_iff.mpr fun d hd => by obtain ⟨s, _, rfl⟩ := List.mem_map.mp hd; rfl, dpAll_iff.mpr fun d hd => by obtain ⟨s, _, rfl⟩ := List.mem_map.mp hd; exact Nat.le_refl _⟩
theorem lay_rw {r : Rw} (h : Yn r.nm) : (rwD r).canLay0 = true ∧ (rwD r).depth ≤ 3 := by
  obtain ⟨a, b⟩ := lay_st r.sts
  refine ⟨layAll_iff.mpr fun d hd => ?_, ?_⟩
  · rcases List.mem_cons.mp hd with rfl | hd
    · exact yn_lay h
    rcases List.mem_cons.mp hd with rfl | hd
    · rfl
    · rw [List.mem_singleton.mp hd]
      exact a
  · have : PyData.depthAll [.str r.nm, .int (r.off : Int), .tuple (r.sts.map stD)] ≤ 2 := dpAll_iff.mpr fun d hd => by
      rcases List.mem_cons.mp hd with rfl | hd
      · exact Nat.zero_le _
      rcases List.mem_cons.mp hd with rfl | hd
      · exact Nat.zero_le _
      · rw [List.mem_singleton.mp hd]
        show PyData.depthAll _ + 1 ≤ 2
        omega
    show _ + 1 ≤ 3
    omega
theorem sh_rws {rs : List Rw} (h : ∀ r ∈ rs, Yn r.nm) : SeqAt.shaped (.list (rs.map rwD)) = true := by
  refine shaped_of (layAll_iff.mpr fun d hd => by obtain ⟨r, hr, rfl⟩ := List.mem_map.mp hd; exact (lay_rw (h r hr)).1) ?_
  have : PyData.depthAll (rs.map rwD) ≤ 3 := dpAll_iff.mpr fun d hd => by obtain ⟨r, hr, rfl⟩ := List.mem_map.mp hd; exact (lay_rw (h r hr)).2
  show _ + 1 ≤ 64
  omega
theorem OkCh.yn {size : Nat} {rs : List Rw} (h : OkCh size rs) : ∀ r ∈ rs, Yn r.nm := fun r m => by
  obtain ⟨i, hi⟩ := List.getElem?_of_mem m
  obtain ⟨a, c1, c2, ok⟩ := rows_at h.rows hi
  exact ok.nm
/-- two charts of the same rows -/
def BothH (K : PySem.W.Frag) (CC : Addr) : Addr → Addr → Hp → Prop := fun x y H => ∃ (size : Nat) (rs : List Rw), (∀ r ∈ rs, Yn r.nm) ∧ rs.length ≤ 1000 ∧ IsH K CC H x size rs ∧ IsH K CC H y size rs
/-- the own == -/
structure ChQ (P : Program) (w : World) (K : PySem.W.Frag) (mg : Str → Option Value) (base : Heap) (CC : Addr) where
  fQ : Addr
  dQ : FuncData
  oQ : FnOk P w K mg base CX0 1 fQ dQ ["self", "other"] (spEq (BothH K CC))
  eq : PySem.W.findIn K (.ref CC) "__eq__" = some (some (.ref fQ))
  eqF : PySem.W.isFn K (.ref fQ) = true
  bQ : Binds K dQ ["self", "other"] []
/-- a draw of a great span -/
def spPlyB : Sp := fun vs H Q _ => ∃ (c : Addr) (span : Int) (B : Nat), vs = [.ref c, .int span] ∧ 0 < span ∧ span < 2 ^ 99 ∧ CR H c B ∧ B < 10 ^ 12 ∧
  ∀ (d : Int) (H' : Hp), 0 ≤ d → d < span → CR H' c (B + 1) → Bt c H H' → (∀ p, H' p = none ↔ H p = none) → Q (.int d) H'
section
variable {P : Program} {w : World} {K : PySem.W.Frag} {mg : Str → Option Value} {base : Heap}
theorem ok_plyB {f : Addr} {fd : FuncData} (F : Fun K "_law_ply" "_law_ply" sPly f fd) (B : Bl mg) : FnOk P w K mg base CX0 1 f fd ["creel", "span"] spPlyB := by
  refine F.ok scPly (fun vs H Q E h => ?_) (fun cdv A outer s H vs Q E hr h => ?_)
  · obtain ⟨c, span, _, rfl, _⟩ := h
    rfl
  · obtain ⟨c, span, bb, rfl, p0, p1, ⟨a, b, n, hc, a0, b0, b1, n0, n1⟩, bB, k⟩ := h
    refine ⟨_, pss_cons (ps_if (pt_cmpR op_gt (pe_ix ix_list (pv 0) pe_int (fun _ _ => rfl)) pe_int (nomark _)) (pss_cons (ps_set (i := 2) scPly.nd rfl (Or.inl rfl) (pe_op op_mod (pe_callTy call_int1 (by rfl) (B "int" (by decide)) (by decide +kernel) (pa_cons (pe_ix ix_list (pv 0) pe_int (fun _ _ => rfl)) pa_nil)) (pv 1)))
      (pss_cons (ps_asg (pe_op op_fdivW (pe_ix ix_list (pv 0) pe_int (fun _ _ => rfl)) (pv 1)) (pg_sub (pv 0) pe_int set_list))
      (pss_one (ps_ret (pv 2))))) pss_nil)
      (pss_cons (ps_asg (pe_op op_add (pe_ix ix_list (pv 0) pe_int (fun _ _ => rfl)) pe_int) (pg_sub (pv 0) pe_int set_list))
      (pss_cons (ps_set (i := 3) scPly.nd rfl (Or.inl rfl) (pe_op op_mod (pe_op op_powB (pe_callTy call_int1 (by rfl) (B "int" (by decide)) (by decide +kernel) (pa_cons (pe_op op_add (pe_ix ix_list (pv 0) pe_int (fun _ _ => rfl)) (pe_op op_mul pe_int (pe_ix ix_list (pv 0) pe_int (fun _ _ => rfl)))) pa_nil)) pe_int) (pe_op op_add (pe_op op_pow pe_int pe_int) pe_int)))
      (pss_cons (ps_set (i := 3) scPly.nd rfl (Or.inl rfl) (pe_op op_mod (pe_op op_powB (pe_callTy call_int1 (by rfl) (B "int" (by decide)) (by decide +kernel) (pa_cons (pe_op op_add (pv 3) (pe_op op_mul pe_int (pe_ix ix_list (pv 0) pe_int (fun _ _ => rfl)))) pa_nil)) pe_int) (pe_op op_add (pe_op op_pow pe_int pe_int) pe_int)))
      (pss_one (ps_ret (pe_op op_mod (pe_op op_fdivW (pv 3) pe_int) (pv 1))))))), ?_⟩
    refine ⟨_, rfl, c, _, 0, _, rfl, rfl, SqL.of hc, atI_nat (j := 0) rfl, _, _, rfl, rfl, _, rfl, ?_⟩
    by_cases big : a > 0
    · refine LK.ifT (decide_eq_true big) ?_
      refine ⟨_, rfl, c, _, 0, _, rfl, rfl, SqL.of hc, atI_nat (j := 0) rfl, .inl ⟨_, rfl, _, rfl, _, _, rfl, rfl, p0, ?_⟩⟩
      refine ⟨_, rfl, c, _, 0, _, rfl, rfl, SqL.of hc, atI_nat (j := 0) rfl, _, rfl, _, _, rfl, rfl, wide_div (b := 100) p0 (by omega) (by decide) (by decide), ?_⟩
      refine ⟨_, rfl, c, _, _, 0, rfl, rfl, hc, rfl, ?_⟩
      exact ⟨_, rfl, k _ _ (Int.emod_nonneg _ (by omega)) (Int.emod_lt_of_pos _ p0) ⟨_, _, _, upd_same, Int.ediv_nonneg a0 (by omega), b0, b1, n0, by omega⟩ Bt.put (fun p => upd_none hc)⟩
    · refine LK.ifF (decide_eq_false big) ?_
      refine ⟨_, rfl, c, _, 2, _, rfl, rfl, SqL.of hc, atI_nat (j := 2) rfl, _, _, rfl, rfl, ?_⟩
      refine ⟨_, rfl, c, _, _, 2, rfl, rfl, hc, rfl, ?_⟩
      have hc2 : upd H c (.lst [.int a, .int b, .int (n + 1)]) c = some (.lst [.int a, .int b, .int (n + 1)]) := upd_same
      refine ⟨_, rfl, c, _, 1, _, rfl, rfl, SqL.of hc2, atI_nat (j := 1) rfl, _, rfl, c, _, 2, _, rfl, rfl, SqL.of hc2, atI_nat (j := 2) rfl, _, _, rfl, rfl, .inl ⟨by decide, by decide⟩, _, _, rfl, rfl, .inl ⟨_, rfl, ?_⟩⟩
      have m0 : 0 ≤ b + 50021 * (n + 1) := by omega
      have m1 : b + 50021 * (n + 1) < 2 ^ 140 := by
        have : (10 : Int) ^ 40 + 50021 * (10 ^ 12 + 1) < 2 ^ 140 := by decide
        omega
      have w1 := bits_small (i := b + 50021 * (n + 1)) (n := 140) (by omega) (by decide)
      refine ⟨_, _, rfl, rfl, ⟨by decide, by omega⟩, _, _, rfl, rfl, ⟨by decide, by decide, by decide⟩, _, _, rfl, rfl, _, _, rfl, rfl, (show (0 : Int) < 10 ^ 38 + 67 by decide), ?_⟩
      generalize hx : (b + 50021 * (n + 1)) ^ (2 : Int).toNat % ((10 : Int) ^ (38 : Int).toNat + 67) = x
      have x0 : 0 ≤ x := by rw [← hx]; exact Int.emod_nonneg _ (by decide)
      have x1 : x < 10 ^ 38 + 67 := by rw [← hx]; exact Int.emod_lt_of_pos _ (by decide)
      refine ⟨_, rfl, _, rfl, c, _, 2, _, rfl, rfl, SqL.of hc2, atI_nat (j := 2) rfl, _, _, rfl, rfl, .inl ⟨by decide, by decide⟩, _, _, rfl, rfl, .inl ⟨_, rfl, ?_⟩⟩
      have q0 : 0 ≤ x + 700001 * (n + 1) := by omega
      have q1 : x + 700001 * (n + 1) < 2 ^ 140 := by
        have : (10 : Int) ^ 38 + 67 + 700001 * (10 ^ 12 + 1) < 2 ^ 140 := by decide
        omega
      have w2 := bits_small (i := x + 700001 * (n + 1)) (n := 140) (by omega) (by decide)
      refine ⟨_, _, rfl, rfl, ⟨by decide, by rw [hx]; omega⟩, _, _, rfl, rfl, ⟨by decide, by decide, by decide⟩, _, _, rfl, rfl, _, _, rfl, rfl, (show (0 : Int) < 10 ^ 39 + 37 by decide), ?_⟩
      generalize hy : (x + 700001 * (n + 1)) ^ (3 : Int).toNat % ((10 : Int) ^ (39 : Int).toNat + 37) = y
      refine ⟨_, rfl, _, _, rfl, rfl, wide_div (b := 60) (by decide) (by decide) (by decide) (by decide), _, rfl, _, _, rfl, rfl, p0, ?_⟩
      exact k _ _ (Int.emod_nonneg _ (by omega)) (Int.emod_lt_of_pos _ p0) ⟨_, _, _, hc2, a0, b0, b1, by omega, by omega⟩ Bt.put (fun p => upd_none hc)
abbrev sHeq : Stmt := inClass (top 31) 8
theorem scHeq : FnScope ["self", "other"] ["self", "other"] (defScope sHeq) := ⟨rfl, rfl, rfl, by decide +kernel, rfl, by decide +kernel, by decide +kernel⟩
theorem ok_Heq {f : Addr} {fd : FuncData} (F : Fun K "__eq__" "Chart.__eq__" sHeq f fd) (B : Bl mg) {CC : Addr} (gC : mg "Chart" = some (.ref CC)) (cc : Cls K CC) (n1 : NoAttr K CC "_counts") (n2 : NoAttr K CC "_rows") (it : InsTy K CC) : FnOk P w K mg base CX0 1 f fd ["self", "other"] (spEq (BothH K CC)) := by
  refine F.ok scHeq (fun vs H Q E h => ?_) (fun cdv A outer s H vs Q E hr h => ?_)
  · obtain ⟨a, b, rfl, _⟩ := h
    rfl
  · obtain ⟨a, b, rfl, ⟨size, rs, ok, rl, ⟨dx, L, G, xs, hx, hL, dL, hG⟩, dy, M, N, ys, hy, hM, dM, hN⟩, k⟩ := h
    refine ⟨_, pss_one (ps_ret (pe_and (pe_callB call_isi (by rfl) (B "isinstance" (by decide)) (by decide +kernel) (pa_cons (pv 1) (pa_cons (pe_glob rfl gC (v := .ref CC) rfl) pa_nil))) (pe_and (pe_cmpR (op_eqD hr.units) (pe_fld (pv 0) rfl) (pe_fld (pv 1) rfl) (nomark _)) (pe_one (pe_cmpR (op_eqD hr.units) (pe_fld (pv 0) rfl) (pe_fld (pv 1) rfl) (nomark _)))))), ?_⟩
    have s1 : SeqAt.shaped (.list ((cnts size rs).map fun k : Nat => PyData.int (k : Int))) = true := sh_nats _
    have s2 : SeqAt.shaped (.list (rs.map rwD)) = true := sh_rws ok
    refine ⟨_, rfl, _, _, _, _, true, rfl, .own CC, it.ty hy, it.own, _, rfl, LK.ifT rfl ?_⟩
    refine ⟨_, rfl, a, CC, dx, _, _, rfl, hx, cc, n1, rfl, _, rfl, b, CC, dy, _, _, rfl, hy, cc, n1, rfl, .list _, .list _, .lst (SqL.of hG) (dp_nI _), .lst (SqL.of hN) (dp_nI _), s1, s1, _, rfl, LK.ifT (SeqAt.eqv_refl _ (sh_lay s1)) ?_⟩
    refine ⟨_, rfl, a, CC, dx, _, _, rfl, hx, cc, n2, rfl, _, rfl, b, CC, dy, _, _, rfl, hy, cc, n2, rfl, .list _, .list _, .lst (SqL.of hL) dL, .lst (SqL.of hM) dM, s2, s2, ?_⟩
    have := k H Ext.rfl'
    rwa [← SeqAt.eqv_refl (.list (rs.map rwD)) (sh_lay s2)] at this
end
end T6
/-! The cloth of a chart, as data. -/
namespace MZ
open PySem PySem.Spec PyProof.Rows L2 LK MY
abbrev Lq := Str × List Int
def srtZ (xs : List Int) : List Int := xs.mergeSort (fun a b => decide (a ≤ b))
theorem srtZ_perm (xs : List Int) : (srtZ xs).Perm xs := List.mergeSort_perm xs _
theorem srtZ_pw (xs : List Int) : (srtZ xs).Pairwise (· ≤ ·) := by
  have h := List.pairwise_mergeSort (le := fun a b : Int => decide (a ≤ b)) (fun a b c h1 h2 => by simp at *; omega) (fun a b => by simp; omega) xs
  exact h.imp fun h => by simpa using h
theorem srtZ_of {ms xs : List Int} (p : ms.Perm xs) (w : ms.Pairwise (· ≤ ·)) : ms = srtZ xs :=
  List.Perm.eq_of_pairwise (le := (· ≤ ·)) (fun a b _ _ h1 h2 => Int.le_antisymm h1 h2) w (srtZ_pw xs) (p.trans (srtZ_perm xs).symm)
theorem srtZ_lt {xs : List Int} (nd : xs.Nodup) : (srtZ xs).Pairwise (· < ·) := by
  have h := List.pairwise_and_iff.mpr ⟨srtZ_pw xs, (srtZ_perm xs).nodup_iff.mpr nd⟩
  exact h.imp fun ⟨a, b⟩ => by omega
/-- the numbers of tk loops from a on, in a ring of R that begins at f -/
def prL (f R a tk : Nat) : List Int := (List.range tk).map fun k => ((f + (a + k) % R : Nat) : Int)
def rowL (nm : Str) (f R : Nat) : Nat → List Sti → List Lq
  | _, [] => []
  | a, s :: ss => List.replicate s.2 (nm, srtZ (prL f R a s.1)) ++ rowL nm f R (a + s.1) ss
theorem rowL_app (nm : Str) (f R : Nat) : ∀ (xs ys : List Sti) (a : Nat), rowL nm f R a (xs ++ ys) = rowL nm f R a xs ++ rowL nm f R (a + tks xs) ys
  | [], ys, a => rfl
  | s :: xs, ys, a => by
    rw [List.cons_append, rowL, rowL, rowL_app nm f R xs ys, List.append_assoc]
    congr 3
    unfold tks
    rw [List.map_cons, List.sum_cons]
    omega
theorem rowL_len (nm : Str) (f R : Nat) : ∀ (ss : List Sti) (a : Nat), (rowL nm f R a ss).length = drs ss
  | [], a => rfl
  | s :: ss, a => by
    rw [rowL, List.length_append, List.length_replicate, rowL_len nm f R ss]
    unfold drs
    rw [List.map_cons, List.sum_cons]
theorem rowL_mem {nm : Str} {f R : Nat} {l : Lq} : ∀ {ss : List Sti} {a : Nat}, l ∈ rowL nm f R a ss → ∃ b s, s ∈ ss ∧ l = (nm, srtZ (prL f R b s.1))
  | [], a, h => absurd h List.not_mem_nil
  | s :: ss, a, h => by
    rw [rowL] at h
    rcases List.mem_append.mp h with h | h
    · exact ⟨a, s, List.mem_cons_self, List.eq_of_mem_replicate h⟩
    · obtain ⟨b, q, m, e⟩ := rowL_mem h
      exact ⟨b, q, List.mem_cons_of_mem _ m, e⟩
/-- so many repeats of stitches -/
def rpt (m : Nat) (ss : List Sti) : List Sti := (List.replicate m ss).flatten
theorem rpt_succ (m : Nat) (ss : List Sti) : rpt (m + 1) ss = rpt m ss ++ ss := by
  unfold rpt
  rw [List.replicate_succ', List.flatten_append]
  simp
theorem rpt_one (ss : List Sti) : rpt 1 ss = ss := by
  unfold rpt
  simp
theorem tks_rpt (ss : List Sti) : ∀ m, tks (rpt m ss) = m * tks ss
  | 0 => by rw [Nat.zero_mul]; rfl
  | m + 1 => by rw [rpt_succ, tks_app, tks_rpt ss m, Nat.add_mul, Nat.one_mul]
theorem drs_rpt (ss : List Sti) : ∀ m, drs (rpt m ss) = m * drs ss
  | 0 => by rw [Nat.zero_mul]; rfl
  | m + 1 => by rw [rpt_succ, drs_app, drs_rpt ss m, Nat.add_mul, Nat.one_mul]
theorem rpt_mem {m : Nat} {ss : List Sti} {s : Sti} (h : s ∈ rpt m ss) : s ∈ ss := by
  unfold rpt at h
  obtain ⟨l, hl, hs⟩ := List.mem_flatten.mp h
  rw [List.eq_of_mem_replicate hl] at hs
  exact hs
theorem rpt_len (m : Nat) (ss : List Sti) : (rpt m ss).length = m * ss.length := by
  unfold rpt
  induction m with
  | zero => rw [Nat.zero_mul]; rfl
  | succ m ih => rw [List.replicate_succ, List.flatten_cons, List.length_append, ih, Nat.add_mul]; omega
def rowW (m c f : Nat) (r : Rw) : List Lq := rowL r.nm f (m * c) r.off (rpt m r.sts)
theorem rowW_len (m c f : Nat) (r : Rw) : (rowW m c f r).length = m * drs r.sts := by
  unfold rowW
  rw [rowL_len, drs_rpt]
/-- loops, the first one of the row behind, the first ones of all rows -/
structure Web where
  ls : List Lq
  fi : Nat
  st : List Nat
def stepW (m : Nat) (S : Web) (q : Rw × Nat) : Web := ⟨S.ls ++ rowW m q.2 S.fi q.1, S.ls.length, S.st ++ [S.ls.length]⟩
def lapW (m size : Nat) (rs : List Rw) (i : Nat) (S : Web) : Web := ((rs.zip (cnts size rs)).take i).foldl (stepW m) S
def begW (m size : Nat) (nm : Str) : Web := ⟨List.replicate (m * size) (nm, []), 0, []⟩
def webW (m size : Nat) (rs : List Rw) (nm : Str) : Nat → Web
  | 0 => begW m size nm
  | t + 1 => lapW m size rs rs.length (webW m size rs nm t)
theorem lapW_succ {m size : Nat} {rs : List Rw} {i : Nat} {r : Rw} {c : Nat} (hr : rs[i]? = some r) (hc : (cnts size rs)[i]? = some c) (S : Web) : lapW m size rs (i + 1) S = stepW m (lapW m size rs i S) (r, c) := by
  unfold lapW
  have e : (rs.zip (cnts size rs))[i]? = some (r, c) := List.getElem?_zip_eq_some.mpr ⟨hr, hc⟩
  rw [List.take_add_one, e, Option.toList_some, List.foldl_append]
  rfl
def Pf (rs : List Rw) (i : Nat) : Nat := ((rs.map fun r => drs r.sts).take i).sum
theorem Pf_succ {rs : List Rw} {i : Nat} {r : Rw} (h : rs[i]? = some r) : Pf rs (i + 1) = Pf rs i + drs r.sts := by
  unfold Pf
  rw [List.take_add_one, List.getElem?_map, h]
  simp
structure Wok (m size : Nat) (rs : List Rw) (t i : Nat) (S : Web) : Prop where
  len : S.ls.length = m * (size + t * Pf rs rs.length + Pf rs i)
  fi : ∀ c, (cnts size rs)[i]? = some c → S.fi + m * c = S.ls.length
  ok : ∀ (k : Nat) (l : Lq), S.ls[k]? = some l → l.1 ∈ rs.map Rw.nm ∧ l.2.Pairwise (· < ·) ∧ l.2.length ≤ 5 ∧ ∀ p ∈ l.2, 0 ≤ p ∧ p < (k : Int)
  st : S.st = (List.range (t * rs.length + i)).map fun q => m * (size + q / rs.length * Pf rs rs.length + Pf rs (q % rs.length))
  last : 0 < t * rs.length + i → S.st.getLast? = some S.fi
theorem prL_nodup {f R a tk : Nat} (h : tk ≤ R) : (prL f R a tk).Nodup := by
  unfold prL
  refine List.pairwise_iff_getElem.mpr fun i j hi hj ij => ?_
  rw [List.length_map, List.length_range] at hi hj
  rw [List.getElem_map, List.getElem_map, List.getElem_range, List.getElem_range]
  intro e
  have e1 : (a + i) % R = (a + j) % R := by omega
  have e2 : (a + j - (a + i)) % R = 0 := Nat.sub_mod_eq_zero_of_mod_eq e1.symm
  rw [Nat.mod_eq_of_lt (by omega)] at e2
  omega
theorem par_ok {f R a tk : Nat} (h : tk ≤ R) (t3 : tk ≤ 3) : (srtZ (prL f R a tk)).Pairwise (· < ·) ∧ (srtZ (prL f R a tk)).length ≤ 5 ∧ ∀ p ∈ srtZ (prL f R a tk), 0 ≤ p ∧ p < ((f + R : Nat) : Int) := by
  refine ⟨srtZ_lt (prL_nodup h), ?_, fun p hp => ?_⟩
  · rw [(srtZ_perm _).length_eq]
    unfold prL
    rw [List.length_map, List.length_range]
    omega
  · have := (srtZ_perm _).mem_iff.mp hp
    unfold prL at this
    obtain ⟨k, hk, rfl⟩ := List.mem_map.mp this
    have kl := List.mem_range.mp hk
    have := Nat.mod_lt (a + k) (show 0 < R by omega)
    omega
theorem le_sumN : ∀ {l : List Nat} {x : Nat}, x ∈ l → x ≤ l.sum
  | a :: l, x, h => by
    rw [List.sum_cons]
    rcases List.mem_cons.mp h with rfl | h
    · omega
    · have := le_sumN h
      omega
theorem Wok.step {m size : Nat} {rs : List Rw} {t i : Nat} {S : Web} {r : Rw} {c : Nat} (h : Wok m size rs t i S) (m1 : 1 ≤ m) (hr : rs[i]? = some r) (hc : (cnts size rs)[i]? = some c) (hc2 : (cnts size rs)[i + 1]? = some (drs r.sts)) (okr : OkRow c r) : Wok m size rs t (i + 1) (stepW m S (r, c)) := by
  have il := (List.getElem?_eq_some_iff.mp hr).1
  have f1 := h.fi c hc
  have len := h.len
  refine ⟨?_, fun d hd => ?_, fun k l hk => ?_, ?_, fun _ => ?_⟩
  · show (S.ls ++ rowW m c S.fi r).length = _
    rw [List.length_append, rowW_len, len, Pf_succ hr, ← Nat.mul_add]
    congr 1
    omega
  · rw [hc2] at hd
    cases hd
    show S.ls.length + m * drs r.sts = (S.ls ++ rowW m c S.fi r).length
    rw [List.length_append, rowW_len]
  · change (S.ls ++ rowW m c S.fi r)[k]? = some l at hk
    rw [List.getElem?_append] at hk
    split at hk
    · exact h.ok k l hk
    · rename_i hkl
      obtain ⟨b, s, ms, rfl⟩ := rowL_mem (List.mem_of_getElem? hk)
      have ms' := rpt_mem ms
      obtain ⟨s3, _, _⟩ := okr.sts.ok s ms'
      have sc : s.1 ≤ c := by
        rw [← okr.sts.tk]
        unfold tks
        exact le_sumN (List.mem_map_of_mem ms')
      have cm : c ≤ m * c := Nat.le_mul_of_pos_left _ m1
      obtain ⟨p1, p2, p3⟩ := par_ok (f := S.fi) (R := m * c) (a := b) (show s.1 ≤ m * c by omega) s3
      refine ⟨List.mem_map_of_mem (List.mem_of_getElem? hr), p1, p2, fun p hp => ?_⟩
      have := p3 p hp
      omega
  · show S.st ++ [S.ls.length] = _
    rw [h.st, ← Nat.add_assoc, List.range_succ, List.map_append, len]
    congr 1
    rw [List.map_cons, List.map_nil]
    congr 2
    rw [Nat.add_comm (t * rs.length) i, Nat.add_mul_div_right _ _ (by omega), Nat.div_eq_of_lt il, Nat.add_mul_mod_self_right, Nat.mod_eq_of_lt il, Nat.zero_add]
  · show (S.st ++ [S.ls.length]).getLast? = some S.ls.length
    rw [List.getLast?_append]
    rfl
theorem Wok.beg {m size : Nat} {rs : List Rw} {nm : Str} (h : nm ∈ rs.map Rw.nm) : Wok m size rs 0 0 (begW m size nm) := by
  refine ⟨?_, fun c hc => ?_, fun k l hk => ?_, ?_, fun h => absurd h (by omega)⟩
  · show (List.replicate (m * size) ((nm, []) : Lq)).length = _
    rw [List.length_replicate, Nat.zero_mul]
    rfl
  · cases hc
    show 0 + m * size = (List.replicate (m * size) ((nm, []) : Lq)).length
    rw [List.length_replicate, Nat.zero_add]
  · have := List.eq_of_mem_replicate (List.mem_of_getElem? hk)
    subst this
    exact ⟨h, List.Pairwise.nil, Nat.zero_le _, fun p hp => absurd hp List.not_mem_nil⟩
  · rw [Nat.zero_mul]
    rfl
theorem Wok.turn {m size : Nat} {rs : List Rw} {t : Nat} {S : Web} (h : Wok m size rs t rs.length S) (rr : Rows size rs size) : Wok m size rs (t + 1) 0 S := by
  refine ⟨?_, fun c hc => ?_, h.ok, ?_, fun g => h.last (by rw [Nat.add_mul] at g; omega)⟩
  · rw [h.len, Nat.add_mul, Nat.one_mul]
    congr 1
    show _ = _ + 0
    omega
  · cases hc
    exact h.fi size (cnts_end rr)
  · rw [h.st, Nat.add_mul, Nat.one_mul, Nat.add_zero]
theorem Wok.lap {m size : Nat} {rs : List Rw} {t : Nat} {S : Web} (m1 : 1 ≤ m) (rr : Rows size rs size) (h : Wok m size rs t 0 S) : ∀ i ≤ rs.length, Wok m size rs t i (lapW m size rs i S)
  | 0, _ => h
  | i + 1, hi => by
    obtain ⟨r, hr⟩ : ∃ r, rs[i]? = some r := ⟨_, List.getElem?_eq_getElem (by omega)⟩
    obtain ⟨a, c1, c2, okr⟩ := rows_at rr hr
    rw [lapW_succ hr c1]
    exact (Wok.lap m1 rr h i (by omega)).step m1 hr c1 c2 okr
theorem Wok.web {m size : Nat} {rs : List Rw} {nm : Str} (m1 : 1 ≤ m) (rr : Rows size rs size) (h : nm ∈ rs.map Rw.nm) : ∀ t, Wok m size rs t 0 (webW m size rs nm t)
  | 0 => Wok.beg h
  | t + 1 => (Wok.lap m1 rr (Wok.web m1 rr h t) rs.length (Nat.le_refl _)).turn rr
end MZ
/-! tuple * int, by one too. -/
namespace MXw
open PySem PySem.Spec PyProof.Rows L2
theorem tuple_mul1 (l : Addr) (items : Array Value) (n : Nat) (sl : Array (Option Value)) (dd : Option Addr) (u : Tok) :
    Meets (Builtin.«tuple.__mul__» ⟨[.ref l, .int 1 u], []⟩) (fun _ R s => s.heap.get? l = some { cls := .type "tuple", dict := dd, data := .seq items n, slots := sl } ∧ R (.ok (.ret (Value.ref l))) s) :=
  .of_wp fun prog w A R s h => by
    obtain ⟨s1, s2, s3, s4, s5⟩ := s
    obtain ⟨ht, h⟩ := h
    have ix1 := AutoSeq1.idx_int
    have c0 : (decide ((1 : Int) < -(2 ^ 63)) || decide ((1 : Int) ≥ 2 ^ 63)) = false := by decide
    have c1 : (items.isEmpty || (1 : Int) == 1) = true := by simp
    wp_walk using wpAny_loadPart' ht
    repeat (first
      | (refine wpAny_ite_false (decide_eq_false (by rw [c0]; exact Bool.false_ne_true)) ?_; wp_walk using wpAny_loadPart' ht)
      | (refine wpAny_ite_true (decide_eq_true (by rw [c1])) ?_; wp_walk using wpAny_loadPart' ht))
    exact ⟨_, rfl, h⟩
def rRepTm (K : PySem.W.Frag) : R2 := fun x y H Q => (∃ l xs, x = .ref l ∧ y = .int 1 ∧ SqT K H l xs ∧ Q (.ref l) H) ∨ rRepT K x y H Q
section
variable {X : Cx}
theorem op_repTm : OpR X (binaryOp .Mult) (rRepTm X.K) := by
  intro pz s σ H y1 y2 u1 u2 Q I rx ry h
  rcases h with ⟨l, xs, rfl, rfl, ht, q⟩ | h
  · cases rx
    obtain ⟨t, rfl⟩ := ry
    obtain ⟨zs, rz, ⟨⟨kl, di, da, sl⟩, ho, hk, n, hda⟩, hsl⟩ := I.tuple ht
    simp only at hk hda
    subst hk hda
    refine wpAny_binaryOp_repeat_ref (T := "tuple") (U := "int") (by decide) ⟨_, ho, rfl⟩ (fun s' => typeIs_int s' 1 t) noFill_tuple_mul F.fills_int_mul F.slot_int_rmul repeat_tuple F.slot_int_index.lookup
      (call_meets F.slot_int_rmul (typeIs_int s 1 t) F.entry_int_rmul (F.args_int_rmul_2 _ _) (int_rmul_tuple 1 t l zs.toArray n di sl)
        ⟨ho, rfl, ⟨_, ho, rfl⟩, call_meets F.slot_tuple_mul ⟨_, ho, rfl⟩ F.entry_tuple_mul (F.args_tuple_mul_2 _ _) (tuple_mul1 l zs.toArray n sl di t) ⟨ho, ?_⟩⟩)
    exact ⟨.ref l, _, I, rfl, q⟩
  · exact op_repT pz s σ H y1 y2 u1 u2 Q I rx ry h
end
end MXw
/-! A comprehension over range(lo, hi); tuple * int, list * int within a def. -/
namespace MZ
open PySem PySem.Spec PyProof.Rows L2 LK MY
theorem lcf_rng {lo : Int} {n : Nat} {g : TG} {tt : TT} {te : TE} {vs : List Nat} {σ : L2.St} {H : Hp} {D : Addr} {Qd : Hp → Prop} (f : Nat → Bool) (e : Nat → V) (nD : H D = none) (ln : n ≤ 1000000)
    (hs : ∀ (i : Nat) (H1 : Hp) (yes : V → Hp → Prop) (no : Hp → Prop), i < n → Same H H1 → (f i = true → ∀ H2, Same H1 H2 → yes (e i) H2) → (f i = false → ∀ H2, Same H1 H2 → no H2) → g (.int (lo + (i : Int))) (wipe σ vs) H1 fun σ2 H2 => wipe σ2 vs = wipe σ vs ∧ tt σ2 H2 fun b H3 => if b = true then te σ2 H3 yes else no H3)
    (hd : ∀ H', Same H H' → H' D = some (.lst (((List.range n).filter f).map e)) → Qd H') :
    ∃ W : Nat → Nat → Hp → Prop, (∃ m, W 0 m (upd H D (.lst []))) ∧ ∀ i m H, W i m H →
      ((Itr lo n).stop i H ∧ Qd H) ∨ ((Itr lo n).go i H ∧ ∃ Nx : Hp → Prop, (∀ H', Nx H' → ∃ m', m' < m ∧ W (i + 1) m' H') ∧ ∀ x H', (Itr lo n).yld i H x H' → g x (wipe σ vs) H' fun σ2 H2 => wipe σ2 vs = wipe σ vs ∧ tt σ2 H2 fun b H3 =>
        if b = true then te σ2 H3 fun y H4 => ∃ acc, H4 D = some (.lst acc) ∧ acc.length < sizeLine ∧ Nx (upd H4 D (.lst (acc ++ [y]))) else Nx H3) := by
  have tk : ∀ i, i ≤ n → (List.range n).take i = List.range i := fun i h => by rw [List.take_range, Nat.min_eq_left h]
  refine lc_range (lo := lo) (n := n) (fun i H' => Same H H' ∧ H' D = some (.lst ((((List.range n).take i).filter f).map e))) ⟨same_new nD, upd_same⟩ (fun i H' hi hp => ?_) (fun H' hp => ?_)
  · exact step_ok (ns := List.range n) nD (by rw [List.length_range]; exact ln) (List.getElem?_range hi) hp fun yes no y n => hs i H' yes no hi hp.1 y n
  · have h2 := hp.2
    rw [tk n (Nat.le_refl _)] at h2
    exact hd H' hp.1 h2
end MZ
/-! draw_row -/
namespace T6
open PySem PySem.Spec PyProof.Rows L2 LK MXi MY MZ
theorem noL_lp (l : Lp) : noL (lpD l) = true := by
  have : noLs (l.2.map PyData.int) = true := noLs_iff.mpr fun d hd => by
    obtain ⟨s, _, rfl⟩ := List.mem_map.mp hd
    rfl
  show (true && (noLs (l.2.map PyData.int) && true)) = true
  rw [this]
  rfl
theorem noLs_lps (ls : List Lp) : noLs (ls.map lpD) = true := noLs_iff.mpr fun d hd => by
  obtain ⟨s, _, rfl⟩ := List.mem_map.mp hd
  exact noL_lp s
theorem noLs_repl {l : Lp} (n : Nat) : noLs (List.replicate n (lpD l)) = true := noLs_iff.mpr fun d hd => by
  rw [List.eq_of_mem_replicate hd]
  exact noL_lp l
theorem dps_repl {K : PySem.W.Frag} {H : Hp} {v : V} {d : PyData} (h : Dp K H v d) : ∀ n, DpAll K H (List.replicate n v) (List.replicate n d)
  | 0 => .nil
  | n + 1 => .cons h (dps_repl h n)
theorem dps_rep {K : PySem.W.Frag} {H : Hp} {xs : List V} {ss : List Sti} (m : Nat) (h : DpAll K H xs (ss.map stD)) : DpAll K H (List.replicate m xs).flatten ((List.replicate m ss).flatten.map stD) := by
  induction m with
  | zero => exact .nil
  | succ m ih =>
    rw [List.replicate_succ, List.replicate_succ, List.flatten_cons, List.flatten_cons, List.map_append]
    exact dps_app h ih
def spDrw (K : PySem.W.Frag) : Sp := fun vs H Q _ => ∃ (v : V) (r : Rw) (fi c m : Nat), vs = [v, .int (fi : Int), .int ((m * c : Nat) : Int), .int (m : Int)] ∧ Dp K H v (rwD r) ∧ OkRow c r ∧ 1 ≤ m ∧ m ≤ 8 ∧ c ≤ 1000 ∧ fi ≤ 100000 ∧ drs r.sts ≤ 1000 ∧
  ∀ (p : Addr) (H' : Hp) (zs : List V), H p = none → Same H H' → H' p = some (.lst zs) → DpAll K H' zs ((rowW m c fi r).map lpD) → Q (.ref p) H'
section
variable {P : Program} {w : World} {K : PySem.W.Frag} {mg : Str → Option Value} {base : Heap}
abbrev sDrw : Stmt := top 32
theorem scDrw : FnScope ["row", "first", "ring", "m", "thread", "offset", "stitches", "loops", "at", "taken", "drawn", "parents", "number"] ["row", "first", "ring", "m"] (defScope sDrw) := ⟨rfl, rfl, rfl, by decide +kernel, rfl, by decide +kernel, by decide +kernel⟩
theorem ok_Drw {f : Addr} {fd : FuncData} (F : Fun K "draw_row" "draw_row" sDrw f fd) (B : Bl mg) : FnOk P w K mg base CX0 1 f fd ["row", "first", "ring", "m"] (spDrw K) := by
  refine F.ok scDrw (fun vs H Q E h => ?_) (fun cdv A outer s H vs Q E hr h => ?_)
  · obtain ⟨v, r, fi, c, m, rfl, _⟩ := h
    rfl
  · obtain ⟨v, r, fi, c, m, rfl, dv, okr, m1, m8, c1, fib, dn, k⟩ := h
    refine ⟨_, pss_cons (ps_asg (pv 0) (pg_tup rfl (pgs_cons (pg_name (i := 4) scDrw.nd rfl (Or.inl rfl)) (pgs_cons (pg_name (i := 5) scDrw.nd rfl (Or.inl rfl)) (pgs_cons (pg_name (i := 6) scDrw.nd rfl (Or.inl rfl)) pgs_nil)))))
      (pss_cons (ps_par (i := 7) (j := 8) rfl scDrw.nd rfl rfl (by decide) rfl rfl (pa_cons (pe_lst pa_nil) (pa_cons (pv 5) pa_nil)) (by rfl))
      (pss_cons (ps_for PassesOwn.never rfl (pi_tup (pe_op MXw.op_repTm (pv 6) (pv 3))) (pg_tup rfl (pgs_cons (pg_name (i := 9) scDrw.nd rfl (Or.inl rfl)) (pgs_cons (pg_name (i := 10) scDrw.nd rfl (Or.inl rfl)) pgs_nil))) (pss_cons (ps_set (i := 11) scDrw.nd rfl (Or.inl rfl) (pe_callB cr_sortedI (by rfl) (B "sorted" (by decide)) (by decide +kernel) (pa_cons (pe_lc (own := [("number", 12)]) (g := gName 12) (tt := tYes) rfl scDrw.nd (pi_range2 (by rfl) (B "range" (by decide)) (pa_cons (pv 8) (pa_cons (pe_op op_add (pv 8) (pv 9)) pa_nil))) (blkOk_by (N := ["row", "first", "ring", "m", "thread", "offset", "stitches", "loops", "at", "taken", "drawn", "parents", "number"]) (sc := defScope sDrw) (by decide +kernel)) (fun _ _ _ _ _ => pg_name (i := 12) scDrw.nd rfl (Or.inl rfl)) (fun _ _ _ _ _ => pts_nil) (fun _ _ _ _ _ => pe_op op_add (pv 1) (pe_op op_mod (pv 12) (pv 2)))) pa_nil)))
      (pss_cons (ps_expr (pe_bm PySem.F.plainAttrs_list PySem.F.slot_list_extend PySem.F.type_list_extend mt_extend (pv 7) (pa_cons (pe_op op_rep (pe_lst (pa_cons (pe_tup (pa_cons (pv 4) (pa_cons (pe_callTy call_tuple_of (by rfl) (B "tuple" (by decide)) (by decide +kernel) (pa_cons (pv 11) pa_nil)) pa_nil))) pa_nil)) (pv 10)) pa_nil)))
      (pss_one (ps_set (i := 8) scDrw.nd rfl (Or.inl rfl) (pe_op op_add (pv 8) (pv 9)))))))
      (pss_one (ps_ret (pv 7))))), ?_⟩
    have ty2 : sizeLine = 16777216 := sizeLine_eq
    obtain ⟨ax, b, ws, rfl, hax, hw, dw⟩ := rw_tup dv
    have wl := dps_len dw
    rw [List.length_map] at wl
    have off := okr.off
    have tk := okr.sts.tk
    have sl := okr.sts.len
    have ok3 := okr.sts.ok
    have mc : m * c ≤ 8 * 1000 := Nat.mul_le_mul m8 (by omega)
    have cm : 1 ≤ m * c := Nat.le_trans (by omega : 1 ≤ 1 * c) (Nat.mul_le_mul_right c m1)
    have ne : ws ≠ [] := fun e => by
      have : r.sts = [] := List.length_eq_zero_iff.mp (by rw [← wl, e]; rfl)
      rw [this] at tk
      change 0 = c at tk
      omega
    refine ⟨_, rfl, ax, _, rfl, hax, rfl, ?_⟩
    refine ⟨_, _, rfl, _, _, rfl, _, _, rfl, rfl, ?_⟩
    dsimp only [gName, gCons, gNil, List.set, tSeq]
    refine ⟨by show 0 ≤ sizeLine; decide, fun D nD => ?_⟩
    refine ⟨_, rfl, _, _, rfl, ?_⟩
    have t2 := same_new (o := .lst []) nD
    have e2 := upd_same (H := H) (a := D) (o := .lst [])
    have hw2 := same_tup t2 hw
    have dw2 := dps_same t2 dw
    generalize upd H D (.lst []) = H2 at t2 e2 hw2 dw2
    dsimp only [gName, List.set, tSeq]
    have rl : (rpt m r.sts).length ≤ 8000 := by
      rw [rpt_len]
      have := Nat.mul_le_mul m8 (show r.sts.length ≤ 1000 by omega)
      omega
    have rt : tks (rpt m r.sts) = m * c := by rw [tks_rpt, tk]
    have rd : drs (rpt m r.sts) ≤ 8000 := by
      rw [drs_rpt]
      have := Nat.mul_le_mul m8 dn
      omega
    refine stJ (fun σ Hn => ∃ (zs : List V) (o8 o9 o10 o11 : Option V), σ = [some (.ref ax), some (.int (fi : Int)), some (.int ((m * c : Nat) : Int)), some (.int (m : Int)), some (.str r.nm), some (.int (r.off : Int)), some (.ref b), some (.ref D), o8, o9, o10, o11, none] ∧ Hn D = some (.lst zs) ∧ DpAll K Hn zs ((rowW m c fi r).map lpD) ∧ Same H Hn) (fun D' aft => ?_) ?_
    · refine exK (te := tOp (MXw.rRepTm K) (tVar 6) (tVar 3)) (fun x Hq => ∃ (q : Addr) (ys : List V), x = .ref q ∧ Same H2 Hq ∧ SqT K Hq q ys ∧ DpAll K Hq ys ((rpt m r.sts).map stD)) (fun Q' aft2 => ?_) ?_
      · refine ⟨_, rfl, _, rfl, ?_⟩
        by_cases one : m = 1
        · subst one
          exact .inl ⟨b, ws, rfl, rfl, hw2, aft2 _ _ ⟨b, ws, rfl, Same.refl _, hw2, by rw [rpt_one]; exact dw2⟩⟩
        · refine .inr ⟨b, _, ws, rfl, rfl, hw2, ne, by omega, by omega, by omega, fun p np => aft2 _ _ ⟨p, _, rfl, same_new np, SqT.of upd_same, ?_⟩⟩
          rw [Int.toNat_natCast]
          unfold rpt
          exact dps_rep m (dps_same (same_new np) dw2)
      rintro x Hq ⟨q, ys, rfl, sq, hq, dq⟩
      have yl := dps_len dq
      rw [List.length_map] at yl
      have eq := sq _ _ e2
      refine ⟨q, rfl, ⟨_, hq⟩, ?_⟩
      refine for_tup (K := K) (a := q) (xs := ys) (fun j σ Hn => ∃ (zs : List V) (o9 o10 o11 : Option V), σ = [some (.ref ax), some (.int (fi : Int)), some (.int ((m * c : Nat) : Int)), some (.int (m : Int)), some (.str r.nm), some (.int (r.off : Int)), some (.ref b), some (.ref D), some (.int ((r.off + tks ((rpt m r.sts).take j) : Nat) : Int)), o9, o10, o11, none] ∧ Hn D = some (.lst zs) ∧ DpAll K Hn zs ((rowL r.nm fi (m * c) r.off ((rpt m r.sts).take j)).map lpD) ∧ Same H Hn ∧ DpAll K Hn ys ((rpt m r.sts).map stD) ∧ SqT K Hn q ys)
        ⟨[], _, _, _, rfl, eq, .nil, t2.trans sq, dq, hq⟩ (fun j σ Hn hj hI => by obtain ⟨_, _, _, _, _, _, _, _, _, h⟩ := hI; exact h) (fun j v σ Hn hv hI => ?_) (fun σ Hn hI => ?_)
      · obtain ⟨zs, o9, o10, o11, rfl, eD, dz, sH, dqn, hqn⟩ := hI
        have jl := (List.getElem?_eq_some_iff.mp hv).1
        obtain ⟨s, hs⟩ : ∃ s, (rpt m r.sts)[j]? = some s := ⟨_, List.getElem?_eq_getElem (by omega)⟩
        have sm := List.mem_of_getElem? hs
        obtain ⟨s3, s1, s4⟩ := ok3 s (rpt_mem sm)
        obtain ⟨z, rfl, hz⟩ := st_tup (dps_get dqn hv (by rw [List.getElem?_map, hs]; rfl))
        have tk1 : (rpt m r.sts).take (j + 1) = (rpt m r.sts).take j ++ [s] := by
          rw [List.take_add_one, hs]
          rfl
        have tks1 : tks ((rpt m r.sts).take (j + 1)) = tks ((rpt m r.sts).take j) + s.1 := by
          rw [tk1, tks_app]
          rfl
        have row1 : rowL r.nm fi (m * c) r.off ((rpt m r.sts).take (j + 1)) = rowL r.nm fi (m * c) r.off ((rpt m r.sts).take j) ++ List.replicate s.2 (r.nm, srtZ (prL fi (m * c) (r.off + tks ((rpt m r.sts).take j)) s.1)) := by
          rw [tk1, rowL_app]
          show _ ++ (_ ++ []) = _
          rw [List.append_nil]
        have tl : tks ((rpt m r.sts).take j) ≤ m * c := by
          have := congrArg tks (List.take_append_drop j (rpt m r.sts))
          rw [tks_app, rt] at this
          omega
        have zl : zs.length ≤ 8000 := by
          have h1 := dps_len dz
          rw [List.length_map, rowL_len] at h1
          have := congrArg drs (List.take_append_drop j (rpt m r.sts))
          rw [drs_app] at this
          omega
        rw [tks1, row1]
        generalize tks ((rpt m r.sts).take j) = tt at tl ⊢
        generalize rowL r.nm fi (m * c) r.off ((rpt m r.sts).take j) = SS at dz ⊢
        refine ⟨z, _, rfl, hz, rfl, ?_⟩
        refine ⟨_, _, rfl, _, _, rfl, rfl, ?_⟩
        dsimp only [gName, gCons, gNil, List.set, tSeq]
        refine ⟨_, rfl, _, rfl, _, rfl, _, _, rfl, rfl, _, _, rfl, by omega, fun M nM => ?_⟩
        rw [show (((r.off + tt : Nat) : Int) + (s.1 : Int) - ((r.off + tt : Nat) : Int)).toNat = s.1 by omega]
        refine lcf_rng (n := s.1) (fun _ => true) (fun i => .int ((fi + (r.off + tt + i) % (m * c) : Nat) : Int)) nM (by omega) (fun i H3 yes no hi s5 y n => ⟨rfl, ?_⟩) (fun H3 s5 eM => ?_)
        · refine ⟨_, rfl, _, rfl, _, rfl, _, _, rfl, rfl, by omega, ?_⟩
          refine ⟨_, _, rfl, rfl, ?_⟩
          have h := y rfl _ (Same.refl _)
          rwa [show ((fi + (r.off + tt + i) % (m * c) : Nat) : Int) = (fi : Int) + (((r.off + tt : Nat) : Int) + (i : Int)) % ((m * c : Nat) : Int) by rw [Int.natCast_add, Int.natCast_emod, Int.natCast_add (r.off + tt)]] at h
        have em : H3 M = some (.lst ((prL fi (m * c) (r.off + tt) s.1).map V.int)) := by
          rw [eM, List.filter_eq_self.mpr (fun _ _ => rfl)]
          unfold prL
          rw [List.map_map]
          rfl
        refine ⟨M, _, rfl, SqL.of em, fun ns S perm pw nS => ?_⟩
        rw [srtZ_of perm pw]
        generalize hp : srtZ (prL fi (m * c) (r.off + tt) s.1) = pr
        have tS := same_new (o := .lst (pr.map V.int)) nS
        have eS := upd_same (H := H3) (a := S) (o := .lst (pr.map V.int))
        have s6 := s5.trans tS
        generalize upd H3 S (.lst (pr.map V.int)) = H4 at tS eS s6
        dsimp only [gName, List.set, tSeq]
        have eD4 := s6 _ _ eD
        refine ⟨_, rfl, .inl ⟨rfl, _, SqL.of eD4⟩, ?_⟩
        refine ⟨_, rfl, _, rfl, S, _, rfl, .inl ⟨SqL.of eS, fun U nU => ?_⟩⟩
        refine ⟨by show 2 ≤ sizeLine; decide, fun W nW => ?_⟩
        refine ⟨by show 1 ≤ sizeLine; decide, fun X nX => ?_⟩
        refine ⟨_, rfl, X, _, _, rfl, rfl, upd_same, by omega, by omega, by rw [List.length_singleton]; omega, fun Y nY => ?_⟩
        have tU := same_new (o := .tup (pr.map V.int)) nU
        have eU := upd_same (H := H4) (a := U) (o := .tup (pr.map V.int))
        generalize upd H4 U (.tup (pr.map V.int)) = H5 at tU eU nW nX nY
        have tW := same_new (o := .tup [.str r.nm, .ref U]) nW
        have eW := upd_same (H := H5) (a := W) (o := .tup [.str r.nm, .ref U])
        generalize upd H5 W (.tup [.str r.nm, .ref U]) = H6 at tW eW nX nY
        have tX := same_new (o := .lst [.ref W]) nX
        generalize upd H6 X (.lst [.ref W]) = H7 at tX nY
        have tY := same_new (o := .lst (List.replicate (s.2 : Int).toNat [V.ref W]).flatten) nY
        have eY := upd_same (H := H7) (a := Y) (o := .lst (List.replicate (s.2 : Int).toNat [V.ref W]).flatten)
        generalize upd H7 Y (.lst (List.replicate (s.2 : Int).toNat [V.ref W]).flatten) = H8 at tY eY
        have fl : (List.replicate (s.2 : Int).toNat [V.ref W]).flatten = List.replicate s.2 (V.ref W) := by
          rw [Int.toNat_natCast, List.flatten_replicate_singleton]
        rw [fl] at eY
        have s48 := (tU.trans tW).trans (tX.trans tY)
        have s38 := s6.trans s48
        refine ⟨D, Y, _, _, rfl, rfl, s38 _ _ eD, eY, by rw [List.length_replicate]; omega, ?_⟩
        have dl : Dp K H8 (.ref W) (lpD (r.nm, pr)) := .tup (SqT.of (tY _ _ (tX _ _ eW))) (.cons (.str _) (.cons (.tup (SqT.of (tY _ _ (tX _ _ (tW _ _ eU)))) (dp_ints_of pr)) .nil))
        have tlo : Tl Hn (upd H8 D (.lst (zs ++ List.replicate s.2 (V.ref W)))) := (Tl.same s38).trans (Tl.own (s38 _ _ eD))
        have tl8 : Tl H8 (upd H8 D (.lst (zs ++ List.replicate s.2 (V.ref W)))) := Tl.own (s38 _ _ eD)
        dsimp only [tSeq]
        refine ⟨_, rfl, _, rfl, _, _, rfl, rfl, ?_⟩
        refine ⟨zs ++ List.replicate s.2 (V.ref W), some (.int (s.1 : Int)), some (.int (s.2 : Int)), some (.ref S), ?_, upd_same, ?_, ?_, dps_tl tlo (noLs_sts _) dqn, sqT_tl tlo hqn⟩
        · dsimp only [List.set]
          rw [show ((r.off + (tt + s.1) : Nat) : Int) = ((r.off + tt : Nat) : Int) + (s.1 : Int) by omega]
        · rw [List.map_append, List.map_replicate]
          refine dps_app (dps_tl tlo (noLs_lps _) dz) (dps_tl tl8 (noLs_repl _) (dps_repl dl s.2))
        · intro b' o e
          rw [upd_ne (ne_none e nD)]
          exact s38 _ _ (sH _ _ e)
      · obtain ⟨zs, o9, o10, o11, rfl, eD, dz, sH, dqn, hqn⟩ := hI
        rw [List.take_of_length_le (by omega)] at dz
        exact aft _ _ ⟨zs, _, _, _, _, rfl, eD, dz, sH⟩
    rintro σ Hn ⟨zs, o8, o9, o10, o11, rfl, eD, dz, sH⟩
    exact ⟨_, rfl, k D Hn zs nD sH eD dz⟩
end
end T6
/-! cloth_at, loop_at -/
namespace T6
open PySem PySem.Spec PyProof.Rows L2 LK MXi MXg MY MZ
theorem cut_drop {xs : List V} {i : Nat} : cutV xs (some (i : Int)) none = xs.drop i := by
  unfold cutV
  rw [HT.sIx_nat, HT.sIx_none]
  rcases Nat.le_total i xs.length with h | h
  · rw [Nat.min_eq_left h, List.take_of_length_le (by rw [List.length_drop]; omega)]
  · rw [Nat.min_eq_right h, List.drop_eq_nil_of_le (Nat.le_refl _), List.drop_eq_nil_of_le h, List.take_nil]
theorem Pf_le (rs : List Rw) (i : Nat) : Pf rs i ≤ Pf rs rs.length := by
  unfold Pf
  rw [show (rs.map fun r => drs r.sts).take rs.length = rs.map fun r => drs r.sts from List.take_of_length_le (by rw [List.length_map]; exact Nat.le_refl _)]
  have := congrArg List.sum (List.take_append_drop i (rs.map fun r => drs r.sts))
  rw [List.sum_append] at this
  omega
def spCat (K : PySem.W.Frag) (CC CH : Addr) : Sp := fun vs H Q _ => ∃ (x : Addr) (m n size : Nat) (rs : List Rw), vs = [.ref x, .int (m : Int), .int (n : Int)] ∧ IsH K CH H x size rs ∧ OkCh size rs ∧ 1 ≤ m ∧ m ≤ 8 ∧ 1 ≤ n ∧ n ≤ 8 ∧ m * (size + n * Pf rs rs.length) ≤ 1000 ∧
  ∀ (y : Addr) (H' : Hp) (W : Web), W = webW m size rs (rwAt rs 0).nm n → Same H H' → IsC K CC H' y W.ls ((List.range (m * size)).map fun k => ((W.fi + k : Nat) : Int)) → Q (.ref y) H'
def spLat (K : PySem.W.Frag) (CH : Addr) : Sp := fun vs H Q _ => ∃ (x : Addr) (m n t i : Nat) (z : Int) (size : Nat) (rs : List Rw), vs = [.ref x, .int (m : Int), .int (n : Int), .int (t : Int), .int (i : Int), .int z] ∧ IsH K CH H x size rs ∧ OkCh size rs ∧ 1 ≤ m ∧ m ≤ 8 ∧ n ≤ 8 ∧ t < n ∧ i < rs.length ∧
  ∀ (H' : Hp), Same H H' → Q (.int (((m * (size + t * Pf rs rs.length + Pf rs i) : Nat) : Int) + z % ((m * cn size rs (i + 1) : Nat) : Int))) H'
section
variable {P : Program} {w : World} {K : PySem.W.Frag} {mg : Str → Option Value} {base : Heap} {CC CF CL CH : Addr}
abbrev sCat : Stmt := top 33
theorem scCat : FnScope ["chart", "m", "n", "rows", "counts", "loops", "first", "_", "row", "count", "drawn"] ["chart", "m", "n"] (defScope sCat) := ⟨rfl, rfl, rfl, by decide +kernel, rfl, by decide +kernel, by decide +kernel⟩
theorem ok_Cat {f : Addr} {fd : FuncData} (F : Fun K "cloth_at" "cloth_at" sCat f fd) (B : Bl mg) (C : Cl2 P w K mg base CC CF CL) (N : Ch2 P w K mg base CH)
    {f_check_size : Addr} {d_check_size : FuncData} (G_check_size : FnOk P w K mg base CX0 2 f_check_size d_check_size ["size"] (spCsz K)) (g_check_size : mg "check_size" = some (.ref f_check_size)) (k_check_size : PySem.W.keepIn K (.ref f_check_size) = true) (b_check_size : Binds K d_check_size ["size"] [])
    {f_draw_row : Addr} {d_draw_row : FuncData} (G_draw_row : FnOk P w K mg base CX0 1 f_draw_row d_draw_row ["row", "first", "ring", "m"] (spDrw K)) (g_draw_row : mg "draw_row" = some (.ref f_draw_row)) (k_draw_row : PySem.W.keepIn K (.ref f_draw_row) = true) (b_draw_row : Binds K d_draw_row ["row", "first", "ring", "m"] []) : FnOk P w K mg base CX0 8 f fd ["chart", "m", "n"] (spCat K CC CH) := by
  refine F.ok scCat (fun vs H Q E h => ?_) (fun cdv A outer s H vs Q E hr h => ?_)
  · obtain ⟨x, m, n, size, rs, rfl, _⟩ := h
    rfl
  · obtain ⟨x, m, n, size, rs, rfl, isx, ok, m1, m8, n1, n8, most, k⟩ := h
    refine ⟨_, pss_cons (ps_expr (pe_call (E := E0) G_check_size (hr.mono (by decide)) rfl g_check_size k_check_size b_check_size .nil pass0 (pa_cons (pv 1) pa_nil)))
      (pss_cons (ps_expr (pe_call (E := E0) G_check_size (hr.mono (by decide)) rfl g_check_size k_check_size b_check_size .nil pass0 (pa_cons (pv 2) pa_nil)))
      (pss_cons (ps_par (i := 3) (j := 4) rfl scCat.nd rfl rfl (by decide) rfl rfl (pa_cons (pe_prop (pv 0) N.cc N.aR N.oR (hr.mono (by decide)) N.bR .nil pass0 (by rfl)) (pa_cons (pe_prop (pv 0) N.cc N.aK N.oK (hr.mono (by decide)) N.bK .nil pass0 (by rfl)) pa_nil)) (by rfl))
      (pss_cons (ps_par (i := 5) (j := 6) rfl scCat.nd rfl rfl (by decide) rfl rfl (pa_cons (pe_op op_rep (pe_lst (pa_cons (pe_tup (pa_cons (pe_ix (ixt (K := K)) (pe_ix ix_list (pv 3) pe_int (fun _ _ => rfl)) pe_int (fun _ _ => rfl)) (pa_cons (pe_tup pa_nil) pa_nil))) pa_nil)) (pe_op op_mul (pv 1) (pe_prop (pv 0) N.cc N.aW N.oW (hr.mono (by decide)) N.bW .nil pass0 (by rfl)))) (pa_cons pe_int pa_nil)) (by rfl))
      (pss_cons (ps_for PassesOwn.never rfl (pi_range1 (by rfl) (B "range" (by decide)) (pa_cons (pv 2) pa_nil)) (pg_name (i := 7) scCat.nd rfl (Or.inl rfl)) (pss_one (ps_for PassesOwn.never rfl (pi_zip (by rfl) (B "zip" (by decide)) (pa_cons (pv 3) (pa_cons (pv 4) pa_nil))) (pg_tup rfl (pgs_cons (pg_name (i := 8) scCat.nd rfl (Or.inl rfl)) (pgs_cons (pg_name (i := 9) scCat.nd rfl (Or.inl rfl)) pgs_nil))) (pss_cons (ps_set (i := 10) scCat.nd rfl (Or.inl rfl) (pe_call (E := E0) G_draw_row (hr.mono (by decide)) rfl g_draw_row k_draw_row b_draw_row .nil pass0 (pa_cons (pv 8) (pa_cons (pv 6) (pa_cons (pe_op op_mul (pv 1) (pv 9)) (pa_cons (pv 1) pa_nil))))))
      (pss_cons (ps_set (i := 6) scCat.nd rfl (Or.inl rfl) (pe_callB call_len_seq (by rfl) (B "len" (by decide)) (by decide +kernel) (pa_cons (pv 5) pa_nil)))
      (pss_one (ps_expr (pe_bm PySem.F.plainAttrs_list PySem.F.slot_list_extend PySem.F.type_list_extend mt_extend (pv 5) (pa_cons (pv 10) pa_nil)))))))))
      (pss_one (ps_ret (pe_makeS C.mC C.oC (hr.mono (by decide)) rfl C.gC C.bC (fun σ => L2N.passAt none0 σ) (pa_cons (pv 5) (pa_cons (pe_listRg rfl (by rfl) (B "list" (by decide)) (prg_2 (by rfl) (B "range" (by decide)) (pv 6) (pe_callB call_len_seq (by rfl) (B "len" (by decide)) (by decide +kernel) (pa_cons (pv 5) pa_nil)))) pa_nil))))))))), ?_⟩
    have ty2 : sizeLine = 16777216 := sizeLine_eq
    have i0 : 0 < rs.length := by have := ok.rl; omega
    obtain ⟨dx, Lr, G, xs0, ix, _, _, _⟩ := id isx
    obtain ⟨r0, _, _, _, _⟩ := ok.row i0
    have rr := ok.rows
    have nmm : (rwAt rs 0).nm ∈ rs.map Rw.nm := List.mem_map_of_mem (List.mem_of_getElem? r0)
    have ms : m * size ≤ 1000 := Nat.le_trans (Nat.mul_le_mul_left m (Nat.le_add_right _ _)) most
    refine ⟨_, rfl, _, rfl, by omega, fun H1 s1 => ?_⟩
    refine ⟨_, rfl, _, rfl, by omega, fun H2 s2 => ?_⟩
    have s02 := s1.trans s2
    have is2 := isx.same s02
    refine ⟨_, rfl, x, dx, _, rfl, s02 _ _ ix, x, size, rs, rfl, is2, fun p xs np dL => ?_⟩
    have tp := same_new (o := .lst xs) np
    have ep := upd_same (H := H2) (a := p) (o := .lst xs)
    have dL3 := dps_same tp dL
    have is3 := is2.same tp
    have s03 := s02.trans tp
    generalize upd H2 p (.lst xs) = H3 at tp ep dL3 is3 s03
    refine ⟨_, rfl, x, dx, _, rfl, s03 _ _ ix, x, size, rs, rfl, is3, fun q nq => ?_⟩
    have tq := same_new (o := .lst (nI (cnts size rs))) nq
    have eq := upd_same (H := H3) (a := q) (o := .lst (nI (cnts size rs)))
    have ep4 := tq _ _ ep
    have dL4 := dps_same tq dL3
    have is4 := is3.same tq
    have s04 := s03.trans tq
    generalize upd H3 q (.lst (nI (cnts size rs))) = H4 at tq eq ep4 dL4 is4 s04
    refine ⟨_, _, rfl, ?_⟩
    dsimp only [gName, List.set, tSeq]
    have xl := dps_len dL4
    rw [List.length_map] at xl
    obtain ⟨v, hv⟩ : ∃ v, xs[0]? = some v := ⟨_, List.getElem?_eq_getElem (by omega)⟩
    obtain ⟨ax, b, ws, rfl, hax, hw, dw⟩ := rw_tup (dps_get dL4 hv (by rw [List.getElem?_map, r0]; rfl))
    refine ⟨_, rfl, p, _, 0, _, rfl, rfl, SqL.of ep4, atI_nat (j := 0) hv, ?_⟩
    refine ⟨ax, _, 0, _, rfl, rfl, hax, atI_nat (j := 0) rfl, ?_⟩
    refine ⟨by show 0 ≤ sizeLine; decide, fun U nU => ?_⟩
    refine ⟨by show 2 ≤ sizeLine; decide, fun W nW => ?_⟩
    refine ⟨by show 1 ≤ sizeLine; decide, fun X nX => ?_⟩
    have tU := same_new (o := .tup []) nU
    have eU := upd_same (H := H4) (a := U) (o := .tup [])
    generalize upd H4 U (.tup []) = H5 at tU eU nW nX
    have tW := same_new (o := .tup [.str (rwAt rs 0).nm, .ref U]) nW
    have eW := upd_same (H := H5) (a := W) (o := .tup [.str (rwAt rs 0).nm, .ref U])
    generalize upd H5 W (.tup [.str (rwAt rs 0).nm, .ref U]) = H6 at tW eW nX
    have tX := same_new (o := .lst [.ref W]) nX
    have eX := upd_same (H := H6) (a := X) (o := .lst [.ref W])
    have s47 := (tU.trans tW).trans tX
    generalize upd H6 X (.lst [.ref W]) = H7 at tX eX s47
    have s07 := s04.trans s47
    refine ⟨_, rfl, _, rfl, x, dx, _, rfl, s07 _ _ ix, x, size, rs, rfl, isx.same s07, ?_⟩
    refine ⟨_, _, rfl, rfl, .inl ⟨by omega, by omega⟩, ?_⟩
    rw [show (fun i j : Int => V.int (i * j)) (m : Int) (size : Int) = V.int ((m * size : Nat) : Int) by rw [Int.natCast_mul]]
    refine ⟨X, _, _, rfl, rfl, eX, by omega, by omega, by rw [List.length_singleton]; omega, fun Y nY => ?_⟩
    rw [Int.toNat_natCast, List.flatten_replicate_singleton]
    have tY := same_new (o := .lst (List.replicate (m * size) (V.ref W))) nY
    have eY := upd_same (H := H7) (a := Y) (o := .lst (List.replicate (m * size) (V.ref W)))
    have s48 := s47.trans tY
    generalize upd H7 Y (.lst (List.replicate (m * size) (V.ref W))) = H8 at tY eY s48
    have dW8 : Dp K H8 (.ref W) (lpD ((rwAt rs 0).nm, [])) := .tup (SqT.of (tY _ _ (tX _ _ eW))) (.cons (.str _) (.cons (.tup (SqT.of (tY _ _ (tX _ _ (tW _ _ eU)))) .nil) .nil))
    have dY8 : DpAll K H8 (List.replicate (m * size) (V.ref W)) ((begW m size (rwAt rs 0).nm).ls.map lpD) := by
      show DpAll K H8 _ ((List.replicate (m * size) ((rwAt rs 0).nm, [])).map lpD)
      rw [List.map_replicate]
      exact dps_repl dW8 _
    have nY0 := gone s07 nY
    have s08 := s04.trans s48
    have ep8 := s48 _ _ ep4
    have eq8 := s48 _ _ eq
    have dL8 := dps_same s48 dL4
    have pY : p ≠ Y := ne_none (s47 _ _ ep4) nY
    have qY : q ≠ Y := ne_none (s47 _ _ eq) nY
    clear nY nX nW nU
    refine ⟨_, _, rfl, ?_⟩
    dsimp only [gName, List.set, tSeq]
    have web := fun t => Wok.web (m := m) (size := size) (nm := (rwAt rs 0).nm) m1 rr nmm t
    refine stJ (fun σ Hn => ∃ (zs : List V) (o7 o8 o9 o10 : Option V), σ = [some (.ref x), some (.int (m : Int)), some (.int (n : Int)), some (.ref p), some (.ref q), some (.ref Y), some (.int (((webW m size rs (rwAt rs 0).nm n).fi : Nat) : Int)), o7, o8, o9, o10] ∧ Hn Y = some (.lst zs) ∧ DpAll K Hn zs ((webW m size rs (rwAt rs 0).nm n).ls.map lpD) ∧ Same H Hn) (fun D' aft => ?_) ?_
    · refine ⟨_, rfl, (n : Int), rfl, by omega, by omega, ?_⟩
      rw [Int.toNat_natCast]
      refine for_range (lo := 0) (n := n) (fun t σ Hn => ∃ (zs : List V) (o7 o8 o9 o10 : Option V), σ = [some (.ref x), some (.int (m : Int)), some (.int (n : Int)), some (.ref p), some (.ref q), some (.ref Y), some (.int (((webW m size rs (rwAt rs 0).nm t).fi : Nat) : Int)), o7, o8, o9, o10] ∧ Hn Y = some (.lst zs) ∧ DpAll K Hn zs ((webW m size rs (rwAt rs 0).nm t).ls.map lpD) ∧ Same H Hn ∧ Hn p = some (.lst xs) ∧ Hn q = some (.lst (nI (cnts size rs))) ∧ DpAll K Hn xs (rs.map rwD))
        ⟨_, _, _, _, _, rfl, eY, dY8, s08, ep8, eq8, dL8⟩ (fun t σ Hn ht hI => ?_) (fun σ Hn hI => ?_)
      · obtain ⟨zs, o7, o8, o9, o10, rfl, eYn, dYn, sn, epn, eqn, dLn⟩ := hI
        dsimp only [gName, List.set]
        refine ⟨_, rfl, _, rfl, p, q, _, _, rfl, SqL.of epn, SqL.of eqn, ?_⟩
        refine for_it (walk_zip (K := K) (a := p) (b := q) (xs := xs) (ys := nI (cnts size rs)) (n := rs.length) (by rw [List.length_map, cnts_len, xl]; omega)) (fun i σ Hn => ∃ (zs : List V) (o8 o9 o10 : Option V), σ = [some (.ref x), some (.int (m : Int)), some (.int (n : Int)), some (.ref p), some (.ref q), some (.ref Y), some (.int (((lapW m size rs i (webW m size rs (rwAt rs 0).nm t)).fi : Nat) : Int)), some (.int (0 + (t : Int))), o8, o9, o10] ∧ Hn Y = some (.lst zs) ∧ DpAll K Hn zs ((lapW m size rs i (webW m size rs (rwAt rs 0).nm t)).ls.map lpD) ∧ Same H Hn ∧ Hn p = some (.lst xs) ∧ Hn q = some (.lst (nI (cnts size rs))) ∧ DpAll K Hn xs (rs.map rwD))
          ⟨_, _, _, _, rfl, eYn, dYn, sn, epn, eqn, dLn⟩ (fun i σ Hn hi hI => by obtain ⟨_, _, _, _, _, _, _, _, h1, h2, _⟩ := hI; exact ⟨SqL.of h1, SqL.of h2⟩) (fun i v σ Hn H' hi hI hy => ?_) (fun σ Hn hI => ?_)
        · obtain ⟨zs, o8, o9, o10, rfl, eYn, dYn, sn, epn, eqn, dLn⟩ := hI
          obtain ⟨T, v1, v2, rfl, nT, rfl, hv1, hv2⟩ := hy
          obtain ⟨er, okr, dr, ec1, ec2⟩ := ok.row hi
          have wl := (web t).lap m1 rr i (by omega)
          have wl1 := wl.step m1 er ec1 (by rw [ec2, dr]) okr
          have lc := lapW_succ (m := m) er ec1 (webW m size rs (rwAt rs 0).nm t)
          have lw := wl.len
          have lf := wl.fi _ ec1
          have cc0 := ok.cn1 i
          have cc1 := ok.cn1 (i + 1)
          have lw1000 : (lapW m size rs i (webW m size rs (rwAt rs 0).nm t)).ls.length ≤ 1000 := by
            rw [lw]
            refine Nat.le_trans (Nat.mul_le_mul_left m ?_) most
            have h1 := Pf_le rs i
            have h2 : (t + 1) * Pf rs rs.length ≤ n * Pf rs rs.length := Nat.mul_le_mul_right _ (by omega)
            rw [Nat.add_mul, Nat.one_mul] at h2
            omega
          rw [lc]
          generalize lapW m size rs i (webW m size rs (rwAt rs 0).nm t) = S at lw1000 lf dYn ⊢
          have zl := dps_len dYn
          rw [List.length_map] at zl
          have e2 : v2 = .int (cn size rs i : Int) := Option.some.inj (hv2.symm.trans (nI_get ec1))
          subst e2
          have tT := same_new (o := .tup [v1, .int (cn size rs i : Int)]) nT
          have eT := upd_same (H := Hn) (a := T) (o := .tup [v1, .int (cn size rs i : Int)])
          have dv := dp_same tT (dps_get dLn hv1 (by rw [List.getElem?_map, er]; rfl))
          have mc : m * cn size rs i ≤ 8 * 1000 := Nat.mul_le_mul m8 (by omega)
          generalize upd Hn T (.tup [v1, .int (cn size rs i : Int)]) = H9 at tT eT dv
          refine ⟨T, _, rfl, SqT.of eT, rfl, ?_⟩
          refine ⟨_, _, rfl, _, _, rfl, rfl, ?_⟩
          dsimp only [gName, gCons, gNil, List.set, tSeq]
          refine ⟨_, rfl, _, rfl, _, rfl, _, rfl, _, _, rfl, rfl, .inl ⟨by omega, by omega⟩, _, rfl, ?_⟩
          dsimp only
          rw [show (m : Int) * (cn size rs i : Int) = ((m * cn size rs i : Nat) : Int) by rw [Int.natCast_mul]]
          refine ⟨v1, rwAt rs i, S.fi, cn size rs i, m, rfl, dv, okr, m1, m8, by omega, by omega, by omega, fun D H10 ws' nD s10 eD dz => ?_⟩
          have s9 := tT.trans s10
          have eY10 := s9 _ _ eYn
          have wl' := dps_len dz
          rw [List.length_map, rowW_len] at wl'
          have md : m * drs (rwAt rs i).sts ≤ 8 * 1000 := Nat.mul_le_mul m8 (by omega)
          dsimp only [gName, List.set, tSeq]
          refine ⟨_, rfl, Y, _, rfl, .inl (SqL.of eY10), ?_⟩
          rw [zl]
          refine ⟨_, rfl, .inl ⟨rfl, _, SqL.of eY10⟩, _, rfl, Y, D, _, _, rfl, rfl, eY10, eD, by omega, ?_⟩
          have tlo : Tl Hn (upd H10 Y (.lst (zs ++ ws'))) := (Tl.same s9).trans (Tl.own eY10)
          have tl10 : Tl H10 (upd H10 Y (.lst (zs ++ ws'))) := Tl.own eY10
          refine ⟨zs ++ ws', _, _, _, rfl, upd_same, ?_, fun b' o e => ?_, ?_, ?_, dps_tl tlo (noLs_rws rs) dLn⟩
          · show DpAll K _ _ ((S.ls ++ rowW m (cn size rs i) S.fi (rwAt rs i)).map lpD)
            rw [List.map_append]
            exact dps_app (dps_tl tlo (noLs_lps _) dYn) (dps_tl tl10 (noLs_lps _) dz)
          · rw [upd_ne (ne_none e nY0)]
            exact s9 _ _ (sn _ _ e)
          · rw [upd_ne pY]
            exact s9 _ _ epn
          · rw [upd_ne qY]
            exact s9 _ _ eqn
        · obtain ⟨zs, o8, o9, o10, rfl, eYn, dYn, sn, epn, eqn, dLn⟩ := hI
          exact ⟨zs, _, _, _, _, rfl, eYn, dYn, sn, epn, eqn, dLn⟩
      · obtain ⟨zs, o7, o8, o9, o10, rfl, eYn, dYn, sn, _⟩ := hI
        exact aft _ _ ⟨zs, _, _, _, _, rfl, eYn, dYn, sn⟩
    rintro σ Hn ⟨zs, o7, o8, o9, o10, rfl, eYn, dYn, sn⟩
    have wn := web n
    have lw := wn.len
    have lf := wn.fi size rfl
    have lo := wn.ok
    have lw1000 : (webW m size rs (rwAt rs 0).nm n).ls.length ≤ 1000 := by
      rw [lw]
      exact most
    generalize hW : webW m size rs (rwAt rs 0).nm n = W at lw lf lo lw1000 dYn ⊢
    have zl := dps_len dYn
    rw [List.length_map] at zl
    refine ⟨_, rfl, _, rfl, _, rfl, Y, _, rfl, .inl (SqL.of eYn), _, _, rfl, rfl, RgOk.of_le (by omega) (by omega) (by omega) (by omega), fun G nG => ?_⟩
    have rgE : rgV (W.fi : Int) ((zs.length : Nat) : Int) = ((List.range (m * size)).map fun k => ((W.fi + k : Nat) : Int)).map V.int := by
      unfold rgV
      rw [zl, show (((W.ls.length : Nat) : Int) - (W.fi : Int)).toNat = m * size by omega, List.map_map]
      refine List.map_congr_left fun k _ => ?_
      show V.int ((W.fi : Int) + (k : Int)) = V.int ((W.fi + k : Nat) : Int)
      rw [Int.natCast_add]
    rw [rgE]
    have okfs : OkFs W.ls.length ((List.range (m * size)).map fun k => ((W.fi + k : Nat) : Int)) := by
      refine ⟨?_, fun z hz => ?_⟩
      · refine List.pairwise_iff_getElem.mpr fun i j hi hj ij => ?_
        rw [List.getElem_map, List.getElem_map, List.getElem_range, List.getElem_range]
        omega
      · obtain ⟨k, hk, rfl⟩ := List.mem_map.mp hz
        have := List.mem_range.mp hk
        omega
    have pwfs : ((List.range (m * size)).map fun k => ((W.fi + k : Nat) : Int)).Pairwise (· ≤ ·) := by
      refine List.pairwise_iff_getElem.mpr fun i j hi hj ij => ?_
      rw [List.getElem_map, List.getElem_map, List.getElem_range, List.getElem_range]
      omega
    generalize hfs : ((List.range (m * size)).map fun k => ((W.fi + k : Nat) : Int)) = fs at okfs pwfs rgE
    have tG := same_new (o := .lst (fs.map V.int)) nG
    have eG := upd_same (H := Hn) (a := G) (o := .lst (fs.map V.int))
    have eY2 := tG _ _ eYn
    have dY2 := dps_same tG dYn
    have sG := sn.trans tG
    generalize upd Hn G (.lst (fs.map V.int)) = H9 at tG eG eY2 dY2 sG
    intro y dy ny ndy ney
    refine clo_any C.cc C.n1 C.n2 eY2 dY2 eG (ys := rs.map Rw.nm) lo (fun y hy => by obtain ⟨r, hr, rfl⟩ := List.mem_map.mp hy; exact OkCh.yn ok r hr) okfs lw1000 ny ndy fun H' ms L' G' xs' s' nL' nG' hx' hL' hxs' hG' pm pw => ⟨rfl, ?_⟩
    have msf : ms = fs := (srtZ_of pm pw).trans (srtZ_of (List.Perm.refl fs) pwfs).symm
    subst msf
    rw [← hfs] at hG'
    exact k _ _ W hW.symm (sG.trans s') ⟨_, L', G', xs', hx', hL', hxs', hG'⟩
abbrev sLat : Stmt := top 34
theorem scLat : FnScope ["chart", "m", "n", "time", "row", "number", "counts", "earlier"] ["chart", "m", "n", "time", "row", "number"] (defScope sLat) := ⟨rfl, rfl, rfl, by decide +kernel, rfl, by decide +kernel, by decide +kernel⟩
theorem ok_Lat {f : Addr} {fd : FuncData} (F : Fun K "loop_at" "loop_at" sLat f fd) (B : Bl mg) (N : Ch2 P w K mg base CH)
    {f_check_size : Addr} {d_check_size : FuncData} (G_check_size : FnOk P w K mg base CX0 2 f_check_size d_check_size ["size"] (spCsz K)) (g_check_size : mg "check_size" = some (.ref f_check_size)) (k_check_size : PySem.W.keepIn K (.ref f_check_size) = true) (b_check_size : Binds K d_check_size ["size"] [])
    {f_is_number : Addr} {d_is_number : FuncData} (G_is_number : FnOk P w K mg base CX0 2 f_is_number d_is_number ["value", "many"] (spNum K)) (g_is_number : mg "is_number" = some (.ref f_is_number)) (k_is_number : PySem.W.keepIn K (.ref f_is_number) = true) (b_is_number : Binds K d_is_number ["value", "many"] [])
    {f_is_integer : Addr} {d_is_integer : FuncData} (G_is_integer : FnOk P w K mg base CX0 1 f_is_integer d_is_integer ["value"] (spInt K)) (g_is_integer : mg "is_integer" = some (.ref f_is_integer)) (k_is_integer : PySem.W.keepIn K (.ref f_is_integer) = true) (b_is_integer : Binds K d_is_integer ["value"] []) : FnOk P w K mg base CX0 3 f fd ["chart", "m", "n", "time", "row", "number"] (spLat K CH) := by
  refine F.ok scLat (fun vs H Q E h => ?_) (fun cdv A outer s H vs Q E hr h => ?_)
  · obtain ⟨x, m, n, t, i, z, size, rs, rfl, _⟩ := h
    rfl
  · obtain ⟨x, m, n, t, i, z, size, rs, rfl, isx, ok, m1, m8, n8, tn, il, k⟩ := h
    refine ⟨_, pss_cons (ps_expr (pe_call (E := E0) G_check_size (hr.mono (by decide)) rfl g_check_size k_check_size b_check_size .nil pass0 (pa_cons (pv 1) pa_nil)))
      (pss_cons (ps_expr (pe_call (E := E0) G_check_size (hr.mono (by decide)) rfl g_check_size k_check_size b_check_size .nil pass0 (pa_cons (pv 2) pa_nil)))
      (pss_cons (ps_if (PW.pt (pw_or (pt_not (pt_val (pe_call (E := E0) G_is_number (hr.mono (by decide)) rfl g_is_number k_is_number b_is_number .nil pass0 (pa_cons (pv 3) (pa_cons (pv 2) pa_nil))))) (pw_or (pt_not (pt_val (pe_call (E := E0) G_is_number (hr.mono (by decide)) rfl g_is_number k_is_number b_is_number .nil pass0 (pa_cons (pv 4) (pa_cons (pe_callB (call_lenO (E := E0) N.aN N.oN (hr.mono (by decide)) N.bN pass0) (by rfl) (B "len" (by decide)) (by decide +kernel) (pa_cons (pv 0) pa_nil)) pa_nil))))) (pw_or1 (pt_not (pt_val (pe_call (E := E0) G_is_integer (hr.mono (by decide)) rfl g_is_integer k_is_integer b_is_integer .nil pass0 (pa_cons (pv 5) pa_nil)))))))) pss_never pss_nil)
      (pss_cons (ps_set (i := 6) scLat.nd rfl (Or.inl rfl) (pe_prop (pv 0) N.cc N.aK N.oK (hr.mono (by decide)) N.bK .nil pass0 (by rfl)))
      (pss_cons (ps_set (i := 7) scLat.nd rfl (Or.inl rfl) (pe_op op_add (pe_op op_mul (pv 3) (pe_callB (cr_sum rfl) (by rfl) (B "sum" (by decide)) (by decide +kernel) (pa_cons (pe_slice sl_list (pv 6) (po_some pe_int) po_none) pa_nil))) (pe_callB (cr_sum rfl) (by rfl) (B "sum" (by decide)) (by decide +kernel) (pa_cons (pe_slice sl_list (pv 6) po_none (po_some (pe_op op_add (pv 4) pe_int))) pa_nil))))
      (pss_one (ps_ret (pe_op op_add (pe_op op_mul (pv 1) (pv 7)) (pe_op op_mod (pv 5) (pe_op op_mul (pv 1) (pe_ix ix_list (pv 6) (pe_op op_add (pv 4) pe_int) (fun _ _ => rfl))))))))))), ?_⟩
    have ty2 : sizeLine = 16777216 := sizeLine_eq
    obtain ⟨dx, Lr, G, xs0, ix, _, _, _⟩ := id isx
    refine ⟨_, rfl, _, rfl, by omega, fun H1 s1 => ?_⟩
    refine ⟨_, rfl, _, rfl, by omega, fun H2 s2 => ?_⟩
    have s02 := s1.trans s2
    refine ⟨_, rfl, _, rfl, _, _, _, rfl, .int _, fun H3 s3 => ?_⟩
    rw [isNumD, show decide (0 ≤ (t : Int) ∧ (t : Int) < (n : Int)) = true from decide_eq_true (by omega)]
    refine ⟨_, rfl, LK.ifF rfl ?_⟩
    have s03 := s02.trans s3
    refine ⟨_, rfl, _, rfl, x, dx, _, rfl, s03 _ _ ix, x, size, rs, rfl, isx.same s03, ?_⟩
    have rl3 := ok.rl
    refine ⟨_, rfl, by omega, by omega, ?_⟩
    refine ⟨_, _, _, rfl, .int _, fun H4 s4 => ?_⟩
    rw [isNumD, show decide (0 ≤ (i : Int) ∧ (i : Int) < ((rs.length : Nat) : Int)) = true from decide_eq_true (by omega)]
    refine ⟨_, rfl, LK.ifF rfl ?_⟩
    have s04 := s03.trans s4
    refine ⟨_, rfl, _, _, rfl, .int _, fun H5 s5 => ?_⟩
    refine ⟨_, rfl, LK.ifF rfl ?_⟩
    have s05 := s04.trans s5
    have is5 := isx.same s05
    dsimp only [tSeq]
    refine ⟨_, rfl, x, dx, _, rfl, s05 _ _ ix, x, size, rs, rfl, is5, fun q nq => ?_⟩
    have tq := same_new (o := .lst (nI (cnts size rs))) nq
    have eq := upd_same (H := H5) (a := q) (o := .lst (nI (cnts size rs)))
    have s06 := s05.trans tq
    generalize upd H5 q (.lst (nI (cnts size rs))) = H6 at tq eq s06
    dsimp only [gName, List.set, tSeq]
    refine ⟨_, rfl, _, rfl, _, rfl, q, _, rfl, SqL.of eq, fun p1 np1 => ?_⟩
    rw [show cutV (nI (cnts size rs)) (some (1 : Int)) none = nI ((cnts size rs).drop 1) from (cut_drop (i := 1)).trans nI_drop]
    have cd : ((cnts size rs).drop 1).map (fun k : Nat => (k : Int)) = (rs.map fun r => drs r.sts).map (fun k : Nat => (k : Int)) := rfl
    have tp1 := same_new (o := .lst (nI ((cnts size rs).drop 1))) np1
    have ep1 := upd_same (H := H6) (a := p1) (o := .lst (nI ((cnts size rs).drop 1)))
    generalize upd H6 p1 (.lst (nI ((cnts size rs).drop 1))) = H7 at tp1 ep1
    have s07 := s06.trans tp1
    refine ⟨p1, _, rfl, SqL.of (by rw [ep1, nI_ints]), ?_⟩
    have eq7 := tp1 _ _ eq
    refine ⟨_, _, rfl, rfl, .inl ⟨by omega, by omega⟩, ?_⟩
    refine ⟨_, rfl, _, rfl, _, _, rfl, rfl, _, rfl, q, _, rfl, SqL.of eq7, fun p2 np2 => ?_⟩
    dsimp only
    rw [show ((i : Int) + 1) = ((i + 1 : Nat) : Int) by omega, cut_take (by rw [List.length_map, cnts_len]; omega), nI_take]
    have tp2 := same_new (o := .lst (nI ((cnts size rs).take (i + 1)))) np2
    have ep2 := upd_same (H := H7) (a := p2) (o := .lst (nI ((cnts size rs).take (i + 1))))
    generalize upd H7 p2 (.lst (nI ((cnts size rs).take (i + 1)))) = H8 at tp2 ep2
    have s08 := s07.trans tp2
    refine ⟨p2, _, rfl, SqL.of (by rw [ep2, nI_ints]), _, _, rfl, rfl, ?_⟩
    dsimp only [gName, List.set, tSeq]
    obtain ⟨_, _, _, _, ec2⟩ := ok.row il
    have cc1 := ok.cn1 (i + 1)
    have mc : m * cn size rs (i + 1) ≤ 8 * 1000 := Nat.mul_le_mul m8 (by omega)
    have mc1 : 1 ≤ m * cn size rs (i + 1) := Nat.le_trans (by omega : 1 ≤ 1 * cn size rs (i + 1)) (Nat.mul_le_mul_right _ m1)
    have sumN : ∀ l : List Nat, (l.map fun k : Nat => (k : Int)).sum = ((l.sum : Nat) : Int) := fun l => by
      induction l with
      | nil => rfl
      | cons a l ih => rw [List.map_cons, List.sum_cons, List.sum_cons, ih]; omega
    have pf : ((cnts size rs).take (i + 1)).sum = size + Pf rs i := by
      unfold cnts Pf
      rw [List.take_succ_cons, List.sum_cons]
    have pl : ((cnts size rs).drop 1).sum = Pf rs rs.length := by
      unfold Pf
      rw [show (rs.map fun r => drs r.sts).take rs.length = rs.map fun r => drs r.sts from List.take_of_length_le (by rw [List.length_map]; exact Nat.le_refl _)]
      rfl
    rw [sumN, sumN, pf, pl]
    refine ⟨_, rfl, _, rfl, _, _, rfl, rfl, .inl ⟨by omega, by omega⟩, ?_⟩
    refine ⟨_, rfl, _, rfl, _, rfl, _, rfl, _, _, rfl, rfl, q, _, ((i + 1 : Nat) : Int), _, rfl, rfl, SqL.of (tp2 _ _ eq7), atI_nat (nI_get ec2), ?_⟩
    refine ⟨_, _, rfl, rfl, .inl ⟨by omega, by omega⟩, ?_⟩
    refine ⟨_, _, rfl, rfl, ?_, ?_⟩
    · rw [← Int.natCast_mul]
      omega
    have := k H8 s08
    refine ⟨_, _, rfl, rfl, ?_⟩
    rwa [show ((m * (size + t * Pf rs rs.length + Pf rs i) : Nat) : Int) = (m : Int) * ((t : Int) * ((Pf rs rs.length : Nat) : Int) + ((size + Pf rs i : Nat) : Int)) by rw [← Int.natCast_mul, ← Int.natCast_add, ← Int.natCast_mul]; congr 2; omega, Int.natCast_mul] at this
end
end T6
/-! _law_room -/
namespace T6
open PySem PySem.Spec PyProof.Rows L2 LK MXi MXg MY MZ
def prD (q : Nat × Nat) : PyData := .tuple [.int (q.1 : Int), .int (q.2 : Int)]
theorem noLs_prs (qs : List (Nat × Nat)) : noLs (qs.map prD) = true := noLs_iff.mpr fun d hd => by
  obtain ⟨s, _, rfl⟩ := List.mem_map.mp hd
  rfl
theorem pr_tup {K : PySem.W.Frag} {H : Hp} {v : V} {q : Nat × Nat} (h : Dp K H v (prD q)) : ∃ a, v = .ref a ∧ SqT K H a [.int (q.1 : Int), .int (q.2 : Int)] := by
  cases h with
  | tup q' r =>
    obtain rfl := ints_back (ns := [(q.1 : Int), (q.2 : Int)]) r
    exact ⟨_, rfl, q'⟩
theorem sh_prs (qs : List (Nat × Nat)) : SeqAt.shaped (.list (qs.map prD)) = true := by
  refine shaped_of (layAll_iff.mpr fun d hd => by obtain ⟨r, hr, rfl⟩ := List.mem_map.mp hd; rfl) ?_
  have : PyData.depthAll (qs.map prD) ≤ 3 := dpAll_iff.mpr fun d hd => by obtain ⟨r, hr, rfl⟩ := List.mem_map.mp hd; show 1 ≤ 3; decide
  show _ + 1 ≤ 64
  omega
theorem sumN (l : List Nat) : (l.map fun k : Nat => (k : Int)).sum = ((l.sum : Nat) : Int) := by
  induction l with
  | nil => rfl
  | cons a l ih => rw [List.map_cons, List.sum_cons, List.sum_cons, ih]; omega
theorem Pf_drop (size : Nat) (rs : List Rw) : ((cnts size rs).drop 1).sum = Pf rs rs.length := by
  unfold Pf
  rw [show (rs.map fun r => drs r.sts).take rs.length = rs.map fun r => drs r.sts from List.take_of_length_le (by rw [List.length_map]; exact Nat.le_refl _)]
  rfl
def spRom (K : PySem.W.Frag) : Sp := fun vs H Q _ => ∃ (t Ld : Addr) (xs : List V) (most size : Nat) (rs : List Rw), vs = [.ref t, .int (most : Int)] ∧ Plan K H t Ld xs size rs ∧ (rs.length ≤ 1000 ∧ ∀ r ∈ rs, r.sts.length ≤ 1000) ∧
  ∀ (p : Addr) (H' : Hp) (zs : List V) (qs : List (Nat × Nat)), H p = none → Same H H' → H' p = some (.lst zs) → DpAll K H' zs (qs.map prD) → qs ≠ [] → qs.length ≤ 48 → (∀ q ∈ qs, 1 ≤ q.1 ∧ q.1 ≤ 6 ∧ 1 ≤ q.2 ∧ q.2 ≤ 8 ∧ (q.1 * (size + q.2 * Pf rs rs.length) ≤ most ∨ q = (1, 1))) → Q (.ref p) H'
section
variable {P : Program} {w : World} {K : PySem.W.Frag} {mg : Str → Option Value} {base : Heap}
abbrev sRom : Stmt := top 42
theorem scRom : FnScope ["plan", "most", "sums_here", "found", "repeats", "high"] ["plan", "most"] (defScope sRom) := ⟨rfl, rfl, rfl, by decide +kernel, rfl, by decide +kernel, by decide +kernel⟩
theorem ok_Rom {f : Addr} {fd : FuncData} (F : Fun K "_law_room" "_law_room" sRom f fd) (B : Bl mg)
    {f__law_sums : Addr} {d__law_sums : FuncData} (G__law_sums : FnOk P w K mg base CX0 1 f__law_sums d__law_sums ["plan"] (spSum K)) (g__law_sums : mg "_law_sums" = some (.ref f__law_sums)) (k__law_sums : PySem.W.keepIn K (.ref f__law_sums) = true) (b__law_sums : Binds K d__law_sums ["plan"] []) : FnOk P w K mg base CX0 2 f fd ["plan", "most"] (spRom K) := by
  refine F.ok scRom (fun vs H Q E h => ?_) (fun cdv A outer s H vs Q E hr h => ?_)
  · obtain ⟨t, Ld, xs, most, size, rs, rfl, _⟩ := h
    rfl
  · obtain ⟨t, Ld, xs, most, size, rs, rfl, pl, few, k⟩ := h
    refine ⟨_, pss_cons (ps_set (i := 2) scRom.nd rfl (Or.inl rfl) (pe_call (E := E0) G__law_sums (hr.mono (by decide)) rfl g__law_sums k__law_sums b__law_sums .nil pass0 (pa_cons (pv 0) pa_nil)))
      (pss_cons (ps_set (i := 3) scRom.nd rfl (Or.inl rfl) (pe_lst pa_nil))
      (pss_cons (ps_for PassesOwn.never rfl (pi_range2 (by rfl) (B "range" (by decide)) (pa_cons pe_int (pa_cons pe_int pa_nil))) (pg_name (i := 4) scRom.nd rfl (Or.inl rfl)) (pss_one (ps_for PassesOwn.never rfl (pi_range2 (by rfl) (B "range" (by decide)) (pa_cons pe_int (pa_cons pe_int pa_nil))) (pg_name (i := 5) scRom.nd rfl (Or.inl rfl)) (pss_one (ps_if (pt_cmpR op_le (pe_op op_mul (pv 4) (pe_op op_add (pe_ix (ixt (K := K)) (pv 0) pe_int (fun _ _ => rfl)) (pe_op op_mul (pv 5) (pe_callB (cr_sum rfl) (by rfl) (B "sum" (by decide)) (by decide +kernel) (pa_cons (pe_slice sl_list (pv 2) (po_some pe_int) po_none) pa_nil))))) (pv 1) (nomark _)) (pss_one (ps_expr (pe_bm PySem.F.plainAttrs_list PySem.F.slot_list_append PySem.F.type_list_append mt_append (pv 3) (pa_cons (pe_tup (pa_cons (pv 4) (pa_cons (pv 5) pa_nil))) pa_nil)))) pss_nil)))))
      (pss_one (ps_ret (pe_ifExp (pt_cmpR (op_neD hr.units) (pv 3) (pe_lst pa_nil) (nomark _)) (pv 3) (pe_lst (pa_cons (pe_tup (pa_cons pe_int (pa_cons pe_int pa_nil))) pa_nil))))))), ?_⟩
    have ty2 : sizeLine = 16777216 := sizeLine_eq
    refine ⟨_, rfl, t, Ld, xs, size, rs, rfl, pl, few, fun S H1 nS s1 eS => ?_⟩
    dsimp only [gName, List.set, tSeq]
    refine ⟨by show 0 ≤ sizeLine; decide, fun D nD => ?_⟩
    have tD := same_new (o := .lst []) nD
    have eD := upd_same (H := H1) (a := D) (o := .lst [])
    have nD0 := gone s1 nD
    have eS2 := tD _ _ eS
    have s2 := s1.trans tD
    have SD : S ≠ D := ne_none eS nD
    generalize upd H1 D (.lst []) = H2 at tD eD eS2 s2
    dsimp only [gName, List.set, tSeq]
    let G : Nat → Nat → L2.St → Hp → Prop := fun i j σ Hn => ∃ (qs : List (Nat × Nat)) (zs : List V) (o4 o5 : Option V), σ = [some (.ref t), some (.int (most : Int)), some (.ref S), some (.ref D), o4, o5] ∧ Same H Hn ∧ Hn D = some (.lst zs) ∧ Hn S = some (.lst (nI (cnts size rs))) ∧ DpAll K Hn zs (qs.map prD) ∧ qs.length ≤ 8 * i + j ∧ ∀ q ∈ qs, 1 ≤ q.1 ∧ q.1 ≤ 6 ∧ 1 ≤ q.2 ∧ q.2 ≤ 8 ∧ q.1 * (size + q.2 * Pf rs rs.length) ≤ most
    refine stJ (fun σ Hn => G 6 0 σ Hn) (fun D' aft => ?_) ?_
    · refine ⟨1, 7, rfl, by decide, ?_⟩
      refine for_range (lo := 1) (n := 6) (fun i σ Hn => G i 0 σ Hn) ⟨[], [], _, _, rfl, s2, eD, eS2, .nil, Nat.zero_le _, fun q m => absurd m List.not_mem_nil⟩ (fun i σ Hn hi hI => ?_) (fun σ Hn hI => aft _ _ hI)
      obtain ⟨qs, zs, o4, o5, rfl, s, eDn, eSn, dz, ql, qk⟩ := hI
      dsimp only [gName, List.set]
      refine ⟨1, 9, rfl, by decide, ?_⟩
      refine for_range (lo := 1) (n := 8) (fun j σ Hn => ∃ (qs : List (Nat × Nat)) (zs : List V) (o5 : Option V), σ = [some (.ref t), some (.int (most : Int)), some (.ref S), some (.ref D), some (.int (1 + (i : Int))), o5] ∧ Same H Hn ∧ Hn D = some (.lst zs) ∧ Hn S = some (.lst (nI (cnts size rs))) ∧ DpAll K Hn zs (qs.map prD) ∧ qs.length ≤ 8 * i + j ∧ ∀ q ∈ qs, 1 ≤ q.1 ∧ q.1 ≤ 6 ∧ 1 ≤ q.2 ∧ q.2 ≤ 8 ∧ q.1 * (size + q.2 * Pf rs rs.length) ≤ most)
        ⟨qs, zs, _, rfl, s, eDn, eSn, dz, by omega, qk⟩ (fun j σ Hn hj hI => ?_) (fun σ Hn hI => ?_)
      · obtain ⟨qs, zs, o5, rfl, s, eDn, eSn, dz, ql, qk⟩ := hI
        dsimp only [gName, List.set]
        refine ⟨_, rfl, _, rfl, t, _, 0, _, rfl, rfl, SqT.of (s _ _ pl.et), atI_nat (j := 0) rfl, ?_⟩
        refine ⟨_, rfl, _, rfl, _, rfl, S, _, rfl, SqL.of eSn, fun p1 np1 => ?_⟩
        rw [show cutV (nI (cnts size rs)) (some (1 : Int)) none = nI ((cnts size rs).drop 1) from (cut_drop (i := 1)).trans nI_drop]
        have tp1 := same_new (o := .lst (nI ((cnts size rs).drop 1))) np1
        have ep1 := upd_same (H := Hn) (a := p1) (o := .lst (nI ((cnts size rs).drop 1)))
        have eD1 := tp1 _ _ eDn
        have eS1 := tp1 _ _ eSn
        have s3 := s.trans tp1
        have dz1 := dps_same tp1 dz
        generalize upd Hn p1 (.lst (nI ((cnts size rs).drop 1))) = H3 at tp1 ep1 eD1 eS1 s3 dz1
        refine ⟨p1, _, rfl, SqL.of (by rw [ep1, nI_ints]), ?_⟩
        rw [sumN, Pf_drop]
        have e : (1 + (i : Int)) * ((size : Int) + (1 + (j : Int)) * ((Pf rs rs.length : Nat) : Int)) = (((i + 1) * (size + (j + 1) * Pf rs rs.length) : Nat) : Int) := by
          rw [show 1 + (i : Int) = ((i + 1 : Nat) : Int) by omega, show 1 + (j : Int) = ((j + 1 : Nat) : Int) by omega, ← Int.natCast_mul, ← Int.natCast_add, ← Int.natCast_mul]
        refine ⟨_, _, rfl, rfl, .inl ⟨by omega, by omega⟩, ?_⟩
        refine ⟨_, _, rfl, rfl, ?_⟩
        refine ⟨_, _, rfl, rfl, .inl ⟨by omega, by omega⟩, ?_⟩
        refine ⟨_, rfl, _, _, rfl, rfl, ?_⟩
        dsimp only
        rw [e]
        refine ⟨_, rfl, ?_⟩
        by_cases c : (i + 1) * (size + (j + 1) * Pf rs rs.length) ≤ most
        · refine LK.ifT (decide_eq_true (by omega)) ?_
          have zl := dps_len dz1
          rw [List.length_map] at zl
          refine ⟨_, rfl, .inl ⟨rfl, _, SqL.of eD1⟩, ?_⟩
          refine ⟨_, rfl, _, rfl, by show 2 ≤ sizeLine; decide, fun u nu => ?_⟩
          have tu := same_new (o := .tup [.int (1 + (i : Int)), .int (1 + (j : Int))]) nu
          have eu := upd_same (H := H3) (a := u) (o := .tup [.int (1 + (i : Int)), .int (1 + (j : Int))])
          have eDu := tu _ _ eD1
          refine ⟨D, _, _, rfl, rfl, eDu, by omega, ?_⟩
          have Du : D ≠ u := ne_none eD1 nu
          generalize upd H3 u (.tup [.int (1 + (i : Int)), .int (1 + (j : Int))]) = H4 at tu eu eDu
          have tlo : Tl H3 (upd H4 D (.lst (zs ++ [.ref u]))) := (Tl.same tu).trans (Tl.own eDu)
          refine ⟨qs ++ [(i + 1, j + 1)], zs ++ [.ref u], _, rfl, fun b' o e' => ?_, upd_same, ?_, ?_, by rw [List.length_append, List.length_singleton]; omega, fun q m => ?_⟩
          · rw [upd_ne (ne_none e' nD0)]
            exact tu _ _ (s3 _ _ e')
          · rw [upd_ne SD]
            exact tu _ _ eS1
          · rw [List.map_append]
            refine dps_app (dps_tl tlo (noLs_prs _) dz1) (.cons (.tup (xs := [.int ((i + 1 : Nat) : Int), .int ((j + 1 : Nat) : Int)]) (SqT.of ?_) (.cons (.int _) (.cons (.int _) .nil))) .nil)
            rw [upd_ne Du.symm, eu, show ((i + 1 : Nat) : Int) = 1 + (i : Int) by omega, show ((j + 1 : Nat) : Int) = 1 + (j : Int) by omega]
          · rcases List.mem_append.mp m with m | m
            · exact qk q m
            · rw [List.mem_singleton.mp m]
              exact ⟨by omega, by omega, by omega, by omega, c⟩
        · exact LK.ifF (decide_eq_false (by omega)) ⟨qs, zs, _, rfl, s3, eD1, eS1, dz1, by omega, qk⟩
      · obtain ⟨qs, zs, o5, rfl, s, eDn, eSn, dz, ql, qk⟩ := hI
        exact ⟨qs, zs, _, _, rfl, s, eDn, eSn, dz, by omega, qk⟩
    rintro σ Hn ⟨qs, zs, o4, o5, rfl, s, eDn, eSn, dz, ql, qk⟩
    refine ⟨_, rfl, by show 0 ≤ sizeLine; decide, fun E nE => ?_⟩
    have tE := same_new (o := .lst []) nE
    refine ⟨.list (qs.map prD), .list [], .lst (SqL.of (tE _ _ eDn)) (dps_same tE dz), .lst (SqL.of upd_same) .nil, sh_prs qs, sh_ints [], _, rfl, ?_⟩
    have sE := s.trans tE
    have dzE := dps_same tE dz
    have eDE := tE _ _ eDn
    generalize upd Hn E (.lst []) = H9 at sE dzE eDE
    by_cases ze : qs = []
    · refine LK.ifF (by rw [ze]; rfl) ?_
      refine ⟨by show 2 ≤ sizeLine; decide, fun u nu => ?_⟩
      have tu := same_new (o := .tup [.int 1, .int 1]) nu
      have eu := upd_same (H := H9) (a := u) (o := .tup [.int 1, .int 1])
      generalize upd H9 u (.tup [.int 1, .int 1]) = H10 at tu eu
      refine ⟨by show 1 ≤ sizeLine; decide, fun v nv => ?_⟩
      have tv := same_new (o := .lst [.ref u]) nv
      exact k v _ [.ref u] [(1, 1)] (gone (sE.trans tu) nv) ((sE.trans tu).trans tv) upd_same (.cons (.tup (SqT.of (tv _ _ eu)) (.cons (.int _) (.cons (.int _) .nil))) .nil) (by simp) (by decide) (fun q m => by rw [List.mem_singleton.mp m]; exact ⟨by decide, by decide, by decide, by decide, .inr rfl⟩)
    · refine LK.ifT (by cases qs with | nil => exact absurd rfl ze | cons l r => rfl) ?_
      exact ⟨_, rfl, k D H9 zs qs nD0 sE eDE dzE ze (by omega) (fun q m => by obtain ⟨a, b, c, d, e⟩ := qk q m; exact ⟨a, b, c, d, .inl e⟩)⟩
end
end T6
/-! things -/
namespace T6
open PySem PySem.Spec PyProof.Rows L2 LK L2H MXb MXd MXe MXf MXi MXg MY MZ
/-- what the kinds say of an instance of the class -/
structure NoK (K : PySem.W.Frag) (C : Addr) : Prop where
  ki : PySem.W.kitOne K (.ref C) (.type "int") = some false
  kb : PySem.W.kitOne K (.ref C) (.type "bool") = some false
  kl : PySem.W.kitOne K (.ref C) (.type "list") = some false
  kt : PySem.W.kitOne K (.ref C) (.type "tuple") = some false
  ks : PySem.W.kitOne K (.ref C) (.type "str") = some false
  lt : PySem.W.kitAny K (.ref C) [.type "list", .type "tuple"] = some false
def okD (d : PyData) : Bool := d.canLay0 && (decide (d.depth ≤ 1) && few d)
/-- what may be handed in -/
def Thg (K : PySem.W.Frag) (CH : Addr) (H : Hp) (v : V) : Prop := (∃ d, Dp K H v d ∧ okD d = true) ∨ (∃ (p : Addr) (size : Nat) (rs : List Rw), v = .ref p ∧ IsH K CH H p size rs ∧ OkCh size rs) ∨ (∃ (l p : Addr) (size : Nat) (rs : List Rw), v = .ref l ∧ H l = some (.lst [.ref p]) ∧ IsH K CH H p size rs ∧ OkCh size rs)
theorem Thg.same {K : PySem.W.Frag} {CH : Addr} {H H' : Hp} {v : V} (h : Thg K CH H v) (s : Same H H') : Thg K CH H' v := by
  rcases h with ⟨d, h, o⟩ | ⟨p, size, rs, e, h, o⟩ | ⟨l, p, size, rs, e, h, i, o⟩
  · exact .inl ⟨d, dp_same s h, o⟩
  · exact .inr (.inl ⟨p, size, rs, e, h.same s, o⟩)
  · exact .inr (.inr ⟨l, p, size, rs, e, s _ _ h, i.same s, o⟩)
def isIV : V → Bool
  | .int _ => true
  | _ => false
theorem isIV_int {v : V} (h : isIV v = true) : ∃ i, v = .int i := by
  cases v with
  | int i => exact ⟨i, rfl⟩
  | _ => cases h
def isNV (many : Int) : V → Bool
  | .int i => decide (0 ≤ i ∧ i < many)
  | _ => false
def szV : V → Bool
  | .int i => decide (1 ≤ i)
  | _ => false
theorem thing_ty {K : PySem.W.Frag} {CH : Addr} (it : InsTy K CH) (nk : NoK K CH) {H : Hp} {v : V} (h : Thg K CH H v) : ∃ (T : Value) (ib bb : Bool), TyX K H v T ∧ PySem.W.kitOne K T (.type "int") = some ib ∧ PySem.W.kitOne K T (.type "bool") = some bb ∧ (ib && !bb) = isIV v := by
  rcases h with ⟨d, h, o⟩ | ⟨p, size, rs, rfl, ⟨dx, L, G, xs, hx, _⟩, o⟩ | ⟨l, p, size, rs, rfl, hl, i, o⟩
  · refine ⟨_, _, _, dp_ty h, kit_d h "int" (by decide), kit_d h "bool" (by decide), ?_⟩
    cases h with
    | non => decide +kernel
    | bl b => exact (show (isK (.bool true) "int" && !isK (.bool true) "bool") = false by decide +kernel)
    | int i => exact (show (isK (.int 0) "int" && !isK (.int 0) "bool") = true by decide +kernel)
    | str x => exact (show (isK (.str "") "int" && !isK (.str "") "bool") = false by decide +kernel)
    | lst _ _ => exact (show (isK (.list []) "int" && !isK (.list []) "bool") = false by decide +kernel)
    | tup _ _ => exact (show (isK (.tuple []) "int" && !isK (.tuple []) "bool") = false by decide +kernel)
  · exact ⟨_, _, _, it.ty hx, nk.ki, nk.kb, rfl⟩
  · have d0 : Dp K (upd H l (.lst [])) (.ref l) (.list []) := .lst (SqL.of upd_same) .nil
    refine ⟨_, _, _, seqL_ty (SqL.of hl), kit_d d0 "int" (by decide), kit_d d0 "bool" (by decide), ?_⟩
    exact (show (isK (.list []) "int" && !isK (.list []) "bool") = false by decide +kernel)
def spIntV (K : PySem.W.Frag) (CH : Addr) : Sp := fun vs H Q _ => ∃ (v : V), vs = [v] ∧ Thg K CH H v ∧ ∀ H', Same H H' → Q (.bl (isIV v)) H'
def spNumV (K : PySem.W.Frag) (CH : Addr) : Sp := fun vs H Q _ => ∃ (v : V) (many : Int), vs = [v, .int many] ∧ Thg K CH H v ∧ ∀ H', Same H H' → Q (.bl (isNV many v)) H'
def spCszV (K : PySem.W.Frag) (CH CS : Addr) : Sp := fun vs H Q E => ∃ (v : V), vs = [v] ∧ Thg K CH H v ∧ (szV v = true → ∀ H', Same H H' → Q .non H') ∧ (szV v = false → ∀ H', Same H H' → Out CS H' E v)
section
variable {P : Program} {w : World} {K : PySem.W.Frag} {mg : Str → Option Value} {base : Heap}
abbrev sIntV : Stmt := top 11
theorem scIntV : FnScope ["value"] ["value"] (defScope sIntV) := ⟨rfl, rfl, rfl, by decide +kernel, rfl, by decide +kernel, by decide +kernel⟩
abbrev sLii : Stmt := top 44
theorem scLii : FnScope ["thing"] ["thing"] (defScope sLii) := ⟨rfl, rfl, rfl, by decide +kernel, rfl, by decide +kernel, by decide +kernel⟩
abbrev sNumV : Stmt := top 12
theorem scNumV : FnScope ["value", "many"] ["value", "many"] (defScope sNumV) := ⟨rfl, rfl, rfl, by decide +kernel, rfl, by decide +kernel, by decide +kernel⟩
abbrev sCszV : Stmt := top 15
theorem scCszV : FnScope ["size"] ["size"] (defScope sCszV) := ⟨rfl, rfl, rfl, by decide +kernel, rfl, by decide +kernel, by decide +kernel⟩
theorem ok_IntV {f : Addr} {fd : FuncData} (F : Fun K "is_integer" "is_integer" sIntV f fd) (B : Bl mg) {CH : Addr} (it : InsTy K CH) (nk : NoK K CH) : FnOk P w K mg base CX0 1 f fd ["value"] (spIntV K CH) := by
  refine F.ok scIntV (fun vs H Q E h => ?_) (fun cdv A outer s H vs Q E hr h => ?_)
  · obtain ⟨v, rfl, _⟩ := h
    rfl
  · obtain ⟨v, rfl, h1, k⟩ := h
    refine ⟨_, pss_one (ps_ret (pe_and (pe_callB call_isi (by rfl) (B "isinstance" (by decide)) (by decide +kernel) (pa_cons (pv 0) (pa_cons (pe_bltn (v := .ty "int") rfl (B "int" (by decide)) (by decide +kernel) rfl) pa_nil))) (pe_one (pe_not (pe_callB call_isi (by rfl) (B "isinstance" (by decide)) (by decide +kernel) (pa_cons (pv 0) (pa_cons (pe_bltn (v := .ty "bool") rfl (B "bool" (by decide)) (by decide +kernel) rfl) pa_nil))))))), ?_⟩
    obtain ⟨T, ib, bb, ty, ki, kb, e⟩ := thing_ty it nk h1
    refine ⟨_, rfl, _, _, _, _, _, rfl, .ty "int", ty, ki, _, rfl, ?_⟩
    have kk := k H (Same.refl H)
    cases ib with
    | false =>
      refine LK.ifF rfl ?_
      rwa [← e] at kk
    | true =>
      refine LK.ifT rfl ⟨_, rfl, _, _, _, _, _, rfl, .ty "bool", ty, kb, _, rfl, ?_⟩
      rw [← e] at kk
      cases bb <;> exact kk
theorem ok_Lii {f : Addr} {fd : FuncData} (F : Fun K "_law_is_int" "_law_is_int" sLii f fd) (B : Bl mg) {CH : Addr} (it : InsTy K CH) (nk : NoK K CH) : FnOk P w K mg base CX0 1 f fd ["thing"] (spIntV K CH) := by
  refine F.ok scLii (fun vs H Q E h => ?_) (fun cdv A outer s H vs Q E hr h => ?_)
  · obtain ⟨v, rfl, _⟩ := h
    rfl
  · obtain ⟨v, rfl, h1, k⟩ := h
    refine ⟨_, pss_one (ps_ret (pe_and (pe_callB call_isi (by rfl) (B "isinstance" (by decide)) (by decide +kernel) (pa_cons (pv 0) (pa_cons (pe_bltn (v := .ty "int") rfl (B "int" (by decide)) (by decide +kernel) rfl) pa_nil))) (pe_one (pe_not (pe_callB call_isi (by rfl) (B "isinstance" (by decide)) (by decide +kernel) (pa_cons (pv 0) (pa_cons (pe_bltn (v := .ty "bool") rfl (B "bool" (by decide)) (by decide +kernel) rfl) pa_nil))))))), ?_⟩
    obtain ⟨T, ib, bb, ty, ki, kb, e⟩ := thing_ty it nk h1
    refine ⟨_, rfl, _, _, _, _, _, rfl, .ty "int", ty, ki, _, rfl, ?_⟩
    have kk := k H (Same.refl H)
    cases ib with
    | false =>
      refine LK.ifF rfl ?_
      rwa [← e] at kk
    | true =>
      refine LK.ifT rfl ⟨_, rfl, _, _, _, _, _, rfl, .ty "bool", ty, kb, _, rfl, ?_⟩
      rw [← e] at kk
      cases bb <;> exact kk
theorem ok_NumV {f : Addr} {fd : FuncData} (F : Fun K "is_number" "is_number" sNumV f fd) (B : Bl mg) {CH : Addr}
    {f_is_integer : Addr} {d_is_integer : FuncData} (G_is_integer : FnOk P w K mg base CX0 1 f_is_integer d_is_integer ["value"] (spIntV K CH)) (g_is_integer : mg "is_integer" = some (.ref f_is_integer)) (k_is_integer : PySem.W.keepIn K (.ref f_is_integer) = true) (b_is_integer : Binds K d_is_integer ["value"] []) : FnOk P w K mg base CX0 2 f fd ["value", "many"] (spNumV K CH) := by
  refine F.ok scNumV (fun vs H Q E h => ?_) (fun cdv A outer s H vs Q E hr h => ?_)
  · obtain ⟨v, many, rfl, _⟩ := h
    rfl
  · obtain ⟨v, many, rfl, h1, k⟩ := h
    refine ⟨_, pss_one (ps_ret (pe_and (pe_call (E := E0) G_is_integer (hr.mono (by decide)) rfl g_is_integer k_is_integer b_is_integer .nil pass0 (pa_cons (pv 0) pa_nil)) (pe_one (pe_chain op_le op_lt pe_int (pv 0) (pv 1))))), ?_⟩
    refine ⟨_, rfl, v, rfl, h1, fun H1 s1 => ⟨_, rfl, ?_⟩⟩
    have kk := k H1 s1
    cases e : isIV v with
    | false =>
      refine LK.ifF rfl ?_
      have en : isNV many v = false := by
        cases v <;> first | rfl | exact absurd e (by simp [isIV])
      rwa [en] at kk
    | true =>
      obtain ⟨i, rfl⟩ := isIV_int e
      refine LK.ifT rfl ⟨_, rfl, _, _, rfl, rfl, _, rfl, ?_⟩
      rw [isNV] at kk
      by_cases c0 : 0 ≤ i
      · refine LK.ifT (decide_eq_true c0) ⟨_, rfl, _, _, rfl, rfl, ?_⟩
        rwa [show decide (0 ≤ i ∧ i < many) = decide (i < many) by simp [c0]] at kk
      · refine LK.ifF (decide_eq_false c0) ?_
        rwa [show decide (0 ≤ i ∧ i < many) = false by simp [c0]] at kk
theorem ok_CszV {f : Addr} {fd : FuncData} (F : Fun K "check_size" "check_size" sCszV f fd) (B : Bl mg) {CH fI CS : Addr} {fdI : FuncData} (I : Ini P w K mg base fI fdI) (TC : XC K mg fI CS "InvalidSize" "value")
    {f_is_integer : Addr} {d_is_integer : FuncData} (G_is_integer : FnOk P w K mg base CX0 1 f_is_integer d_is_integer ["value"] (spIntV K CH)) (g_is_integer : mg "is_integer" = some (.ref f_is_integer)) (k_is_integer : PySem.W.keepIn K (.ref f_is_integer) = true) (b_is_integer : Binds K d_is_integer ["value"] []) : FnOk P w K mg base (L2N.CX P w) 3 f fd ["size"] (spCszV K CH CS) := by
  refine F.okC scCszV (fun vs H Q E h => ?_) (fun cdv A outer s H vs Q E hr h => ?_)
  · obtain ⟨v, rfl, _⟩ := h
    rfl
  · obtain ⟨v, rfl, h1, k1, k2⟩ := h
    refine ⟨_, pss_one (ps_if (PW.pt (pw_or (pt_not (pt_val (pe_call (E := E0) G_is_integer (hr.mono (by decide)) rfl g_is_integer k_is_integer b_is_integer .nil pass0 (pa_cons (pv 0) pa_nil)))) (pw_or1 (pt_cmpR op_lt (pv 0) pe_int (nomark _))))) (pss_one (L2N.ps_raise rfl (L2N.takes_of rfl rfl rfl rfl) (pmk1 TC I.ok I.bd (hr.mono (by decide)) rfl (pv 0)))) pss_nil), ?_⟩
    refine ⟨_, rfl, v, rfl, h1, fun H1 s1 => ⟨_, rfl, ?_⟩⟩
    cases e : isIV v with
    | false =>
      refine LK.ifT rfl (LK.ifT rfl ?_)
      have en : szV v = false := by
        cases v <;> first | rfl | exact absurd e (by simp [isIV])
      exact ⟨_, rfl, (k2 en H1 s1).go (Same.refl _)⟩
    | true =>
      obtain ⟨i, rfl⟩ := isIV_int e
      refine LK.ifF rfl ⟨_, rfl, _, _, rfl, rfl, _, rfl, ?_⟩
      by_cases c : i < 1
      · refine LK.ifT (decide_eq_true c) ?_
        exact ⟨_, rfl, (k2 (decide_eq_false (by omega)) H1 s1).go (Same.refl _)⟩
      · exact LK.ifF (decide_eq_false c) (k1 (decide_eq_true (by omega)) H1 s1)
end
end T6
/-! cloth_at, loop_at that refuse -/
namespace T6
open PySem PySem.Spec PyProof.Rows L2 LK L2H MXb MXd MXe MXf MXi MXg MY MZ
theorem _root_.L2.FnOk.liftC {P : Program} {w : World} {K : PySem.W.Frag} {mg : Str → Option Value} {base : Heap} {k : Nat} {f : Addr} {fd : FuncData} {ps : List Str} {sp : Sp} (F : FnOk P w K mg base CX0 k f fd ps sp) (CX : CXT) : FnOk P w K mg base CX k f fd ps sp :=
  ⟨F.len, fun A outer s H args us vs Q E r e b v h => codeAny_mono (F.run A outer s H args us vs Q E r e b v h) fun r s' z => by
    match r, z with
    | .ok (.ret u), z => exact z
    | .ok .next, z => exact z
    | .ok .brk, z => exact z
    | .ok .cont, z => exact z
    | .error e, z => exact False.elim z⟩
theorem _root_.L2.FnOk.orC {P : Program} {w : World} {K : PySem.W.Frag} {mg : Str → Option Value} {base : Heap} {CX : CXT} {k : Nat} {f : Addr} {fd : FuncData} {ps : List Str} {sp1 sp2 : Sp} (F : FnOk P w K mg base CX k f fd ps sp1) (G : FnOk P w K mg base CX k f fd ps sp2) : FnOk P w K mg base CX k f fd ps (fun vs H Q E => sp1 vs H Q E ∨ sp2 vs H Q E) :=
  ⟨fun vs H Q E h => h.elim (F.len vs H Q E) (G.len vs H Q E), fun A outer s H args us vs Q E r e b v h => h.elim (F.run A outer s H args us vs Q E r e b v) (G.run A outer s H args us vs Q E r e b v)⟩
theorem szV_int {v : V} (h : szV v = true) : isIV v = true := by
  cases v with
  | int i => rfl
  | _ => cases h
def nV : V → Int
  | .int i => i
  | _ => 0
def plV (n len : Int) (vt vi vz : V) : Bool := isNV n vt && (isNV len vi && isIV vz)
def spCatR (K : PySem.W.Frag) (CH CS : Addr) : Sp := fun vs H Q E => ∃ (x : Addr) (vm vn : V), vs = [.ref x, vm, vn] ∧ Thg K CH H vm ∧ Thg K CH H vn ∧ (szV vm && szV vn) = false ∧ (szV vm = false → ∀ H', Same H H' → Out CS H' E vm) ∧ (szV vm = true → szV vn = false → ∀ H', Same H H' → Out CS H' E vn)
def spLatR (K : PySem.W.Frag) (CH CS CP : Addr) : Sp := fun vs H Q E => ∃ (x : Addr) (vm vn vt vi vz : V) (size : Nat) (rs : List Rw), vs = [.ref x, vm, vn, vt, vi, vz] ∧ IsH K CH H x size rs ∧ rs.length ≤ 1000 ∧ Thg K CH H vm ∧ Thg K CH H vn ∧ Thg K CH H vt ∧ Thg K CH H vi ∧ Thg K CH H vz ∧ True ∧ (szV vm && (szV vn && plV (nV vn) (rs.length : Nat) vt vi vz)) = false ∧
  (szV vm = false → ∀ H', Same H H' → Out CS H' E vm) ∧ (szV vm = true → szV vn = false → ∀ H', Same H H' → Out CS H' E vn) ∧ (szV vm = true → szV vn = true → ∀ (p : Addr) H', Same H H' → H' p = some (.tup [vt, vi, vz]) → Out CP H' E (.ref p))
section
variable {P : Program} {w : World} {K : PySem.W.Frag} {mg : Str → Option Value} {base : Heap} {CC CF CL CH : Addr}
abbrev sCatR : Stmt := top 33
theorem scCatR : FnScope ["chart", "m", "n", "rows", "counts", "loops", "first", "_", "row", "count", "drawn"] ["chart", "m", "n"] (defScope sCatR) := ⟨rfl, rfl, rfl, by decide +kernel, rfl, by decide +kernel, by decide +kernel⟩
abbrev sLatR : Stmt := top 34
theorem scLatR : FnScope ["chart", "m", "n", "time", "row", "number", "counts", "earlier"] ["chart", "m", "n", "time", "row", "number"] (defScope sLatR) := ⟨rfl, rfl, rfl, by decide +kernel, rfl, by decide +kernel, by decide +kernel⟩
theorem ok_CatR {f : Addr} {fd : FuncData} (F : Fun K "cloth_at" "cloth_at" sCatR f fd) (B : Bl mg) {CS : Addr} (N : Ch2 P w K mg base CH)
    {f_check_size : Addr} {d_check_size : FuncData} (G_check_size : FnOk P w K mg base (L2N.CX P w) 3 f_check_size d_check_size ["size"] (spCszV K CH CS)) (g_check_size : mg "check_size" = some (.ref f_check_size)) (k_check_size : PySem.W.keepIn K (.ref f_check_size) = true) (b_check_size : Binds K d_check_size ["size"] [])
    {f_draw_row : Addr} {d_draw_row : FuncData} (G_draw_row : FnOk P w K mg base CX0 1 f_draw_row d_draw_row ["row", "first", "ring", "m"] (spDrw K)) (g_draw_row : mg "draw_row" = some (.ref f_draw_row)) (k_draw_row : PySem.W.keepIn K (.ref f_draw_row) = true) (b_draw_row : Binds K d_draw_row ["row", "first", "ring", "m"] []) : FnOk P w K mg base (L2N.CX P w) 8 f fd ["chart", "m", "n"] (spCatR K CH CS) := by
  refine F.okC scCatR (fun vs H Q E h => ?_) (fun cdv A outer s H vs Q E hr h => ?_)
  · obtain ⟨x, vm, vn, rfl, _⟩ := h
    rfl
  · obtain ⟨x, vm, vn, rfl, tm, tn, wr, k1, k2⟩ := h
    refine ⟨_, pss_cons (ps_expr (pe_call (E := E) G_check_size (hr.mono (by decide)) rfl g_check_size k_check_size b_check_size .nil (L2N.passes_call (L2N.takes_of rfl rfl rfl rfl) (fun _ _ _ _ z => z)) (pa_cons (pv 1) pa_nil)))
      (pss_cons (ps_expr (pe_call (E := E) G_check_size (hr.mono (by decide)) rfl g_check_size k_check_size b_check_size .nil (L2N.passes_call (L2N.takes_of rfl rfl rfl rfl) (fun _ _ _ _ z => z)) (pa_cons (pv 2) pa_nil)))
      pss_never), ?_⟩
    refine ⟨_, rfl, vm, rfl, tm, fun e1 H1 s1 => ?_, fun e1 H1 s1 => k1 e1 H1 s1⟩
    refine ⟨_, rfl, vn, rfl, tn.same s1, fun e2 H2 s2 => ?_, fun e2 H2 s2 => k2 e1 e2 H2 (s1.trans s2)⟩
    rw [e1, e2] at wr
    cases wr
theorem ok_LatR {f : Addr} {fd : FuncData} (F : Fun K "loop_at" "loop_at" sLatR f fd) (B : Bl mg) {fI CS CP : Addr} {fdI : FuncData} (I : Ini P w K mg base fI fdI) (TP : XC K mg fI CP "InvalidPlace" "value") (N : Ch2 P w K mg base CH)
    {f_check_size : Addr} {d_check_size : FuncData} (G_check_size : FnOk P w K mg base (L2N.CX P w) 3 f_check_size d_check_size ["size"] (spCszV K CH CS)) (g_check_size : mg "check_size" = some (.ref f_check_size)) (k_check_size : PySem.W.keepIn K (.ref f_check_size) = true) (b_check_size : Binds K d_check_size ["size"] [])
    {f_is_number : Addr} {d_is_number : FuncData} (G_is_number : FnOk P w K mg base CX0 2 f_is_number d_is_number ["value", "many"] (spNumV K CH)) (g_is_number : mg "is_number" = some (.ref f_is_number)) (k_is_number : PySem.W.keepIn K (.ref f_is_number) = true) (b_is_number : Binds K d_is_number ["value", "many"] [])
    {f_is_integer : Addr} {d_is_integer : FuncData} (G_is_integer : FnOk P w K mg base CX0 1 f_is_integer d_is_integer ["value"] (spIntV K CH)) (g_is_integer : mg "is_integer" = some (.ref f_is_integer)) (k_is_integer : PySem.W.keepIn K (.ref f_is_integer) = true) (b_is_integer : Binds K d_is_integer ["value"] []) : FnOk P w K mg base (L2N.CX P w) 4 f fd ["chart", "m", "n", "time", "row", "number"] (spLatR K CH CS CP) := by
  refine F.okC scLatR (fun vs H Q E h => ?_) (fun cdv A outer s H vs Q E hr h => ?_)
  · obtain ⟨x, vm, vn, vt, vi, vz, size, rs, rfl, _⟩ := h
    rfl
  · obtain ⟨x, vm, vn, vt, vi, vz, size, rs, rfl, isx, rl, tm, tn, tt, ti, tz, nn, wr, k1, k2, k3⟩ := h
    refine ⟨_, pss_cons (ps_expr (pe_call (E := E) G_check_size (hr.mono (by decide)) rfl g_check_size k_check_size b_check_size .nil (L2N.passes_call (L2N.takes_of rfl rfl rfl rfl) (fun _ _ _ _ z => z)) (pa_cons (pv 1) pa_nil)))
      (pss_cons (ps_expr (pe_call (E := E) G_check_size (hr.mono (by decide)) rfl g_check_size k_check_size b_check_size .nil (L2N.passes_call (L2N.takes_of rfl rfl rfl rfl) (fun _ _ _ _ z => z)) (pa_cons (pv 2) pa_nil)))
      (pss_cons (ps_if (PW.pt (pw_or (pt_not (pt_val (pe_call (E := E0) G_is_number (hr.mono (by decide)) rfl g_is_number k_is_number b_is_number .nil pass0 (pa_cons (pv 3) (pa_cons (pv 2) pa_nil))))) (pw_or (pt_not (pt_val (pe_call (E := E0) G_is_number (hr.mono (by decide)) rfl g_is_number k_is_number b_is_number .nil pass0 (pa_cons (pv 4) (pa_cons (pe_callB (call_lenO (E := E0) N.aN N.oN (hr.mono (by decide)) N.bN pass0) (by rfl) (B "len" (by decide)) (by decide +kernel) (pa_cons (pv 0) pa_nil)) pa_nil))))) (pw_or1 (pt_not (pt_val (pe_call (E := E0) G_is_integer (hr.mono (by decide)) rfl g_is_integer k_is_integer b_is_integer .nil pass0 (pa_cons (pv 5) pa_nil)))))))) (pss_one (L2N.ps_raise rfl (L2N.takes_of rfl rfl rfl rfl) (pmk1 TP I.ok I.bd (hr.mono (by decide)) rfl (pe_tup (pa_cons (pv 3) (pa_cons (pv 4) (pa_cons (pv 5) pa_nil))))))) pss_nil)
      pss_never)), ?_⟩
    have ty2 : sizeLine = 16777216 := sizeLine_eq
    obtain ⟨dx, Lr, G, xs0, ix, _, _, _⟩ := id isx
    refine ⟨_, rfl, vm, rfl, tm, fun e1 H1 s1 => ?_, fun e1 H1 s1 => k1 e1 H1 s1⟩
    refine ⟨_, rfl, vn, rfl, tn.same s1, fun e2 H2 s2 => ?_, fun e2 H2 s2 => k2 e1 e2 H2 (s1.trans s2)⟩
    have s02 := s1.trans s2
    obtain ⟨n, rfl⟩ := isIV_int (szV_int e2)
    rw [e1, e2, Bool.true_and, Bool.true_and] at wr
    refine ⟨_, rfl, _, rfl, vt, n, rfl, tt.same s02, fun H3 s3 => ?_⟩
    have s03 := s02.trans s3
    refine ⟨_, rfl, ?_⟩
    cases c1 : isNV n vt with
    | false =>
      refine LK.ifT rfl (LK.ifT rfl ?_)
      refine ⟨_, rfl, _, rfl, _, rfl, by show 3 ≤ sizeLine; decide, fun p np => ?_⟩
      exact (k3 e1 e2 p _ (s03.trans (same_new np)) upd_same).go (Same.refl _)
    | true =>
    refine LK.ifF rfl ?_
    refine ⟨_, rfl, _, rfl, x, dx, _, rfl, s03 _ _ ix, x, size, rs, rfl, isx.same s03, ?_⟩
    refine ⟨_, rfl, by omega, by omega, ?_⟩
    refine ⟨vi, (rs.length : Nat), rfl, ti.same s03, fun H4 s4 => ?_⟩
    have s04 := s03.trans s4
    refine ⟨_, rfl, ?_⟩
    cases c2 : isNV (rs.length : Nat) vi with
    | false =>
      refine LK.ifT rfl (LK.ifT rfl ?_)
      refine ⟨_, rfl, _, rfl, _, rfl, by show 3 ≤ sizeLine; decide, fun p np => ?_⟩
      exact (k3 e1 e2 p _ (s04.trans (same_new np)) upd_same).go (Same.refl _)
    | true =>
    refine LK.ifF rfl ?_
    refine ⟨_, rfl, vz, rfl, tz.same s04, fun H5 s5 => ?_⟩
    have s05 := s04.trans s5
    refine ⟨_, rfl, ?_⟩
    cases c3 : isIV vz with
    | false =>
      refine LK.ifT rfl ?_
      refine ⟨_, rfl, _, rfl, _, rfl, by show 3 ≤ sizeLine; decide, fun p np => ?_⟩
      exact (k3 e1 e2 p _ (s05.trans (same_new np)) upd_same).go (Same.refl _)
    | true =>
      have : plV (nV (V.int n)) (rs.length : Nat) vt vi vz = true := by
        show (isNV n vt && (isNV (rs.length : Nat) vi && isIV vz)) = true
        rw [c1, c2, c3]
        rfl
      rw [this] at wr
      cases wr
end
end T6
/-! _law_matched of things -/
namespace T6
open PySem PySem.Spec PyProof.Rows L2 LK MXi MXg MY MZ
/-- alike, down to the smallest part; charts by themselves -/
def Sim (K : PySem.W.Frag) (CH : Addr) : Nat → Hp → V → V → Prop
  | 0, _, _, _ => False
  | m + 1, H, x, y => (∃ d, Dp K H x d ∧ Dp K H y d ∧ d.canLay0 = true ∧ d.depth < m + 1 ∧ d.depth ≤ 60 ∧ few d = true) ∨ (1 ≤ m ∧ x = y ∧ ∃ (p : Addr) (size : Nat) (rs : List Rw), x = .ref p ∧ IsH K CH H p size rs ∧ OkCh size rs) ∨
    (∃ (a b : Addr) (xs ys : List V), x = .ref a ∧ y = .ref b ∧ ((SqL K H a xs ∧ SqL K H b ys) ∨ (SqT K H a xs ∧ SqT K H b ys)) ∧ xs.length = ys.length ∧ xs.length ≤ 1000 ∧ ∀ (j : Nat) (v w : V), xs[j]? = some v → ys[j]? = some w → Sim K CH m H v w)
theorem Sim.same {K : PySem.W.Frag} {CH : Addr} {H H' : Hp} (s : Same H H') : ∀ {n : Nat} {x y : V}, Sim K CH n H x y → Sim K CH n H' x y
  | 0, _, _, h => h
  | m + 1, x, y, h => by
    rcases h with ⟨d, h1, h2, h3⟩ | ⟨h1, h2, p, size, rs, h3, h4, h5⟩ | ⟨a, b, xs, ys, rfl, rfl, h, l1, l2, k⟩
    · exact .inl ⟨d, dp_same s h1, dp_same s h2, h3⟩
    · exact .inr (.inl ⟨h1, h2, p, size, rs, h3, h4.same s, h5⟩)
    · refine .inr (.inr ⟨a, b, xs, ys, rfl, rfl, ?_, l1, l2, fun j v w e1 e2 => (k j v w e1 e2).same s⟩)
      rcases h with ⟨h1, h2⟩ | ⟨h1, h2⟩
      · exact .inl ⟨s.seq h1, s.seq h2⟩
      · exact .inr ⟨same_tup s h1, same_tup s h2⟩
def spS (K : PySem.W.Frag) (CH : Addr) (n : Nat) : Sp := fun vs H Q _ => ∃ (x y : V), vs = [x, y] ∧ Sim K CH n H x y ∧ ∀ H', Same H H' → Q (.bl true) H'
def spSO (K : PySem.W.Frag) (CH : Addr) : Sp := fun vs H Q _ => ∃ (p : Addr) (size : Nat) (rs : List Rw), vs = [.ref p, .ref p] ∧ IsH K CH H p size rs ∧ OkCh size rs ∧ ∀ H', Same H H' → Q (.bl true) H'
def spSC (K : PySem.W.Frag) (CH : Addr) (n : Nat) : Sp := fun vs H Q _ => ∃ (a b : Addr) (xs ys : List V), vs = [.ref a, .ref b] ∧ ((SqL K H a xs ∧ SqL K H b ys) ∨ (SqT K H a xs ∧ SqT K H b ys)) ∧ xs.length = ys.length ∧ xs.length ≤ 1000 ∧ (∀ (j : Nat) (v w : V), xs[j]? = some v → ys[j]? = some w → Sim K CH n H v w) ∧ ∀ H', Same H H' → Q (.bl true) H'
section
variable {P : Program} {w : World} {K : PySem.W.Frag} {mg : Str → Option Value} {base : Heap}
theorem mat_obj {f : Addr} {fd : FuncData} (n : Nat) {sp0 : Sp} (F : Fun K "_law_matched" "_law_matched" sMat f fd) (B : Bl mg) (g_ : mg "_law_matched" = some (.ref f)) (b_ : Binds K fd ["found", "due"] []) (G : FnOk P w K mg base CX0 n f fd ["found", "due"] sp0) {CH : Addr} (it : InsTy K CH) (nk : NoK K CH) (U : ChQ P w K mg base CH) (n1 : 1 ≤ n) :
    FnOk P w K mg base CX0 (n + 1) f fd ["found", "due"] (spSO K CH) := by
  refine F.ok scMat (fun vs H Q E h => ?_) (fun cdv A outer s H vs Q E hr h => ?_)
  · obtain ⟨p, size, rs, rfl, _⟩ := h
    rfl
  · obtain ⟨p, size, rs, rfl, isx, ok, k⟩ := h
    refine ⟨_, pss_cons (ps_if (PW.pt (pw_or (pt_val (pe_callB call_isi (by rfl) (B "isinstance" (by decide)) (by decide +kernel) (pa_cons (pv 0) (pa_cons (pe_bltn (v := .ty "bool") rfl (B "bool" (by decide)) (by decide +kernel) rfl) pa_nil)))) (pw_or1 (pt_val (pe_callB call_isi (by rfl) (B "isinstance" (by decide)) (by decide +kernel) (pa_cons (pv 1) (pa_cons (pe_bltn (v := .ty "bool") rfl (B "bool" (by decide)) (by decide +kernel) rfl) pa_nil))))))) (pss_one (ps_ret (pe_and (pe_callB call_isi (by rfl) (B "isinstance" (by decide)) (by decide +kernel) (pa_cons (pv 0) (pa_cons (pe_bltn (v := .ty "bool") rfl (B "bool" (by decide)) (by decide +kernel) rfl) pa_nil))) (pe_and (pe_callB call_isi (by rfl) (B "isinstance" (by decide)) (by decide +kernel) (pa_cons (pv 1) (pa_cons (pe_bltn (v := .ty "bool") rfl (B "bool" (by decide)) (by decide +kernel) rfl) pa_nil))) (pe_one (pe_cmpR (op_eqD hr.units) (pv 0) (pv 1) (nomark _))))))) pss_nil)
      (pss_cons (ps_if (PW.pt (pw_or (pt_cmpR op_ne (pe_callB call_isi (by rfl) (B "isinstance" (by decide)) (by decide +kernel) (pa_cons (pv 0) (pa_cons (pe_bltn (v := .ty "list") rfl (B "list" (by decide)) (by decide +kernel) rfl) pa_nil))) (pe_callB call_isi (by rfl) (B "isinstance" (by decide)) (by decide +kernel) (pa_cons (pv 1) (pa_cons (pe_bltn (v := .ty "list") rfl (B "list" (by decide)) (by decide +kernel) rfl) pa_nil))) (nomark _)) (pw_or1 (pt_cmpR op_ne (pe_callB call_isi (by rfl) (B "isinstance" (by decide)) (by decide +kernel) (pa_cons (pv 0) (pa_cons (pe_bltn (v := .ty "tuple") rfl (B "tuple" (by decide)) (by decide +kernel) rfl) pa_nil))) (pe_callB call_isi (by rfl) (B "isinstance" (by decide)) (by decide +kernel) (pa_cons (pv 1) (pa_cons (pe_bltn (v := .ty "tuple") rfl (B "tuple" (by decide)) (by decide +kernel) rfl) pa_nil))) (nomark _))))) (pss_one (ps_ret pe_bl)) pss_nil)
      (pss_cons (ps_if (PW.pt (pw_or (pt_cmpR op_ne (pe_callB call_isi (by rfl) (B "isinstance" (by decide)) (by decide +kernel) (pa_cons (pv 0) (pa_cons (pe_bltn (v := .ty "str") rfl (B "str" (by decide)) (by decide +kernel) rfl) pa_nil))) (pe_callB call_isi (by rfl) (B "isinstance" (by decide)) (by decide +kernel) (pa_cons (pv 1) (pa_cons (pe_bltn (v := .ty "str") rfl (B "str" (by decide)) (by decide +kernel) rfl) pa_nil))) (nomark _)) (pw_or1 (pt_cmpR op_ne (pe_callB call_isi (by rfl) (B "isinstance" (by decide)) (by decide +kernel) (pa_cons (pv 0) (pa_cons (pe_bltn (v := .ty "int") rfl (B "int" (by decide)) (by decide +kernel) rfl) pa_nil))) (pe_callB call_isi (by rfl) (B "isinstance" (by decide)) (by decide +kernel) (pa_cons (pv 1) (pa_cons (pe_bltn (v := .ty "int") rfl (B "int" (by decide)) (by decide +kernel) rfl) pa_nil))) (nomark _))))) (pss_one (ps_ret pe_bl)) pss_nil)
      (pss_cons (ps_if (pt_val (pe_callB call_isiT (by rfl) (B "isinstance" (by decide)) (by decide +kernel) (pa_cons (pv 1) (pa_cons (pe_tup (pa_cons (pe_bltn (v := .ty "list") rfl (B "list" (by decide)) (by decide +kernel) rfl) (pa_cons (pe_bltn (v := .ty "tuple") rfl (B "tuple" (by decide)) (by decide +kernel) rfl) pa_nil))) pa_nil)))) (pss_cons (ps_if (pt_cmpR op_ne (pe_callB call_len_seq (by rfl) (B "len" (by decide)) (by decide +kernel) (pa_cons (pv 0) pa_nil)) (pe_callB call_len_seq (by rfl) (B "len" (by decide)) (by decide +kernel) (pa_cons (pv 1) pa_nil)) (nomark _)) (pss_one (ps_ret pe_bl)) pss_nil)
      (pss_one (ps_ret (pe_cmpR (op_eqD hr.units) (pe_lc (own := [("k", 2)]) (g := gName 2) rfl scMat.nd (pi_range1 (by rfl) (B "range" (by decide)) (pa_cons (pe_callB call_len_seq (by rfl) (B "len" (by decide)) (by decide +kernel) (pa_cons (pv 1) pa_nil)) pa_nil)) (blkOk_by (N := ["found", "due", "k"]) (sc := defScope sMat) (by decide +kernel)) (fun _ _ _ _ _ => pg_name (i := 2) scMat.nd rfl (Or.inl rfl)) (fun _ _ _ _ _ => pts_one (pt_not (pt_val (pe_call (E := E0) G hr rfl g_ F.kp b_ .nil pass0 (pa_cons (pe_ix (ixq (K := K)) (pv 0) (pv 2) (fun _ _ => rfl)) (pa_cons (pe_ix (ixq (K := K)) (pv 1) (pv 2) (fun _ _ => rfl)) pa_nil)))))) (fun _ _ _ _ _ => pv 2)) (pe_lst pa_nil) (nomark _))))) pss_nil)
      (pss_one (ps_ret (pe_and (pe_cmpR op_eq (pe_cmpR op_isN (pv 0) pe_non (nomark _)) (pe_cmpR op_isN (pv 1) pe_non (nomark _)) (nomark _)) (pe_one (pe_cmpR (op_eqG (rcG_ins (E := E0) U.oQ U.eq U.eqF U.bQ pass0) (hr.mono n1)) (pv 0) (pv 1) (nomark _))))))))), ?_⟩
    obtain ⟨dx, Lr, G0, xs0, hx, _⟩ := id isx
    refine ⟨_, rfl, _, _, _, _, _, rfl, .ty "bool", (it.ty hx), nk.kb, _, rfl, LK.ifF rfl ?_⟩
    refine ⟨_, rfl, _, _, _, _, _, rfl, .ty "bool", (it.ty hx), nk.kb, _, rfl, LK.ifF rfl ?_⟩
    refine ⟨_, rfl, _, _, _, _, _, rfl, .ty "list", (it.ty hx), nk.kl, _, rfl, _, _, _, _, _, rfl, .ty "list", (it.ty hx), nk.kl, rfl, _, rfl, LK.ifF (by simp) ?_⟩
    refine ⟨_, rfl, _, _, _, _, _, rfl, .ty "tuple", (it.ty hx), nk.kt, _, rfl, _, _, _, _, _, rfl, .ty "tuple", (it.ty hx), nk.kt, rfl, _, rfl, LK.ifF (by simp) ?_⟩
    refine ⟨_, rfl, _, _, _, _, _, rfl, .ty "str", (it.ty hx), nk.ks, _, rfl, _, _, _, _, _, rfl, .ty "str", (it.ty hx), nk.ks, rfl, _, rfl, LK.ifF (by simp) ?_⟩
    refine ⟨_, rfl, _, _, _, _, _, rfl, .ty "int", (it.ty hx), nk.ki, _, rfl, _, _, _, _, _, rfl, .ty "int", (it.ty hx), nk.ki, rfl, _, rfl, LK.ifF (by simp) ?_⟩
    refine ⟨_, rfl, by show 2 ≤ sizeLine; decide, fun tp ntp => ⟨_, tp, _, _, _, _, rfl, upd_same, .cons (.ty "list") (.cons (.ty "tuple") .nil), (it.ty (same_new ntp _ _ hx)), nk.lt, _, rfl, ?_⟩⟩
    have s1 : Same H (upd H tp (.tup [.ty "list", .ty "tuple"])) := same_new ntp
    have hx1 := s1 _ _ hx
    refine LK.ifF rfl ?_
    refine ⟨_, rfl, rfl, _, rfl, rfl, rfl, _, rfl, LK.ifT (by simp) ?_⟩
    refine ⟨_, rfl, _, rfl, ⟨p, p, dx, dx, _, _, rfl, rfl, hx1, hx1, size, rs, OkCh.yn ok, ok.rl.2, isx.same s1, isx.same s1⟩, fun H7 e7 => ?_⟩
    have s7 : Same _ H7 := e7
    exact k H7 (s1.trans s7)
theorem mat_con {f : Addr} {fd : FuncData} (n : Nat) (F : Fun K "_law_matched" "_law_matched" sMat f fd) (B : Bl mg) (g_ : mg "_law_matched" = some (.ref f)) (b_ : Binds K fd ["found", "due"] []) {CH : Addr} (G : FnOk P w K mg base CX0 n f fd ["found", "due"] (spS K CH n)) :
    FnOk P w K mg base CX0 (n + 1) f fd ["found", "due"] (spSC K CH n) := by
  refine F.ok scMat (fun vs H Q E h => ?_) (fun cdv A outer s H vs Q E hr h => ?_)
  · obtain ⟨a, b, xs, ys, rfl, _⟩ := h
    rfl
  · obtain ⟨a, b, xs, ys, rfl, sq, ll, l2, el, k⟩ := h
    refine ⟨_, pss_cons (ps_if (PW.pt (pw_or (pt_val (pe_callB call_isi (by rfl) (B "isinstance" (by decide)) (by decide +kernel) (pa_cons (pv 0) (pa_cons (pe_bltn (v := .ty "bool") rfl (B "bool" (by decide)) (by decide +kernel) rfl) pa_nil)))) (pw_or1 (pt_val (pe_callB call_isi (by rfl) (B "isinstance" (by decide)) (by decide +kernel) (pa_cons (pv 1) (pa_cons (pe_bltn (v := .ty "bool") rfl (B "bool" (by decide)) (by decide +kernel) rfl) pa_nil))))))) (pss_one (ps_ret (pe_and (pe_callB call_isi (by rfl) (B "isinstance" (by decide)) (by decide +kernel) (pa_cons (pv 0) (pa_cons (pe_bltn (v := .ty "bool") rfl (B "bool" (by decide)) (by decide +kernel) rfl) pa_nil))) (pe_and (pe_callB call_isi (by rfl) (B "isinstance" (by decide)) (by decide +kernel) (pa_cons (pv 1) (pa_cons (pe_bltn (v := .ty "bool") rfl (B "bool" (by decide)) (by decide +kernel) rfl) pa_nil))) (pe_one (pe_cmpR (op_eqD hr.units) (pv 0) (pv 1) (nomark _))))))) pss_nil)
      (pss_cons (ps_if (PW.pt (pw_or (pt_cmpR op_ne (pe_callB call_isi (by rfl) (B "isinstance" (by decide)) (by decide +kernel) (pa_cons (pv 0) (pa_cons (pe_bltn (v := .ty "list") rfl (B "list" (by decide)) (by decide +kernel) rfl) pa_nil))) (pe_callB call_isi (by rfl) (B "isinstance" (by decide)) (by decide +kernel) (pa_cons (pv 1) (pa_cons (pe_bltn (v := .ty "list") rfl (B "list" (by decide)) (by decide +kernel) rfl) pa_nil))) (nomark _)) (pw_or1 (pt_cmpR op_ne (pe_callB call_isi (by rfl) (B "isinstance" (by decide)) (by decide +kernel) (pa_cons (pv 0) (pa_cons (pe_bltn (v := .ty "tuple") rfl (B "tuple" (by decide)) (by decide +kernel) rfl) pa_nil))) (pe_callB call_isi (by rfl) (B "isinstance" (by decide)) (by decide +kernel) (pa_cons (pv 1) (pa_cons (pe_bltn (v := .ty "tuple") rfl (B "tuple" (by decide)) (by decide +kernel) rfl) pa_nil))) (nomark _))))) (pss_one (ps_ret pe_bl)) pss_nil)
      (pss_cons (ps_if (PW.pt (pw_or (pt_cmpR op_ne (pe_callB call_isi (by rfl) (B "isinstance" (by decide)) (by decide +kernel) (pa_cons (pv 0) (pa_cons (pe_bltn (v := .ty "str") rfl (B "str" (by decide)) (by decide +kernel) rfl) pa_nil))) (pe_callB call_isi (by rfl) (B "isinstance" (by decide)) (by decide +kernel) (pa_cons (pv 1) (pa_cons (pe_bltn (v := .ty "str") rfl (B "str" (by decide)) (by decide +kernel) rfl) pa_nil))) (nomark _)) (pw_or1 (pt_cmpR op_ne (pe_callB call_isi (by rfl) (B "isinstance" (by decide)) (by decide +kernel) (pa_cons (pv 0) (pa_cons (pe_bltn (v := .ty "int") rfl (B "int" (by decide)) (by decide +kernel) rfl) pa_nil))) (pe_callB call_isi (by rfl) (B "isinstance" (by decide)) (by decide +kernel) (pa_cons (pv 1) (pa_cons (pe_bltn (v := .ty "int") rfl (B "int" (by decide)) (by decide +kernel) rfl) pa_nil))) (nomark _))))) (pss_one (ps_ret pe_bl)) pss_nil)
      (pss_cons (ps_if (pt_val (pe_callB call_isiT (by rfl) (B "isinstance" (by decide)) (by decide +kernel) (pa_cons (pv 1) (pa_cons (pe_tup (pa_cons (pe_bltn (v := .ty "list") rfl (B "list" (by decide)) (by decide +kernel) rfl) (pa_cons (pe_bltn (v := .ty "tuple") rfl (B "tuple" (by decide)) (by decide +kernel) rfl) pa_nil))) pa_nil)))) (pss_cons (ps_if (pt_cmpR op_ne (pe_callB call_len_seq (by rfl) (B "len" (by decide)) (by decide +kernel) (pa_cons (pv 0) pa_nil)) (pe_callB call_len_seq (by rfl) (B "len" (by decide)) (by decide +kernel) (pa_cons (pv 1) pa_nil)) (nomark _)) (pss_one (ps_ret pe_bl)) pss_nil)
      (pss_one (ps_ret (pe_cmpR (op_eqD hr.units) (pe_lc (own := [("k", 2)]) (g := gName 2) rfl scMat.nd (pi_range1 (by rfl) (B "range" (by decide)) (pa_cons (pe_callB call_len_seq (by rfl) (B "len" (by decide)) (by decide +kernel) (pa_cons (pv 1) pa_nil)) pa_nil)) (blkOk_by (N := ["found", "due", "k"]) (sc := defScope sMat) (by decide +kernel)) (fun _ _ _ _ _ => pg_name (i := 2) scMat.nd rfl (Or.inl rfl)) (fun _ _ _ _ _ => pts_one (pt_not (pt_val (pe_call (E := E0) G hr rfl g_ F.kp b_ .nil pass0 (pa_cons (pe_ix (ixq (K := K)) (pv 0) (pv 2) (fun _ _ => rfl)) (pa_cons (pe_ix (ixq (K := K)) (pv 1) (pv 2) (fun _ _ => rfl)) pa_nil)))))) (fun _ _ _ _ _ => pv 2)) (pe_lst pa_nil) (nomark _))))) pss_nil)
      (pss_one (ps_ret (pe_and (pe_cmpR op_eq (pe_cmpR op_isN (pv 0) pe_non (nomark _)) (pe_cmpR op_isN (pv 1) pe_non (nomark _)) (nomark _)) (pe_one (pe_cmpR (op_eqD hr.units) (pv 0) (pv 1) (nomark _))))))))), ?_⟩
    obtain ⟨d0, tx, ty, ty2, is1, kl, nb, sa, sb⟩ : ∃ d0 : PyData, TyX K H (.ref a) (.type (tyN d0)) ∧ TyX K H (.ref b) (.type (tyN d0)) ∧ (∀ H', Same H H' → TyX K H' (.ref b) (.type (tyN d0))) ∧ (∀ T, T ∈ (["bool", "int", "str", "list", "tuple"] : List String) → PySem.W.kitOne K (.type (tyN d0)) (.type T) = some (isK d0 T)) ∧ PySem.W.kitAny K (.type (tyN d0)) [.type "list", .type "tuple"] = some true ∧ isK d0 "bool" = false ∧ (SqL K H a xs ∨ SqT K H a xs) ∧ (SqL K H b ys ∨ SqT K H b ys) := by
      rcases sq with ⟨h1, h2⟩ | ⟨h1, h2⟩
      · have d : Dp K (upd H a (.lst [])) (.ref a) (.list []) := .lst (SqL.of upd_same) .nil
        exact ⟨.list [], seqL_ty h1, seqL_ty h2, fun H' s => seqL_ty (s.seq h2), fun T hT => kit_d d T hT, kit_lt d, by decide +kernel, .inl h1, .inl h2⟩
      · have d : Dp K (upd H a (.tup [])) (.ref a) (.tuple []) := .tup (SqT.of upd_same) .nil
        exact ⟨.tuple [], seqT_ty h1, seqT_ty h2, fun H' s => seqT_ty (same_tup s h2), fun T hT => kit_d d T hT, kit_lt d, by decide +kernel, .inr h1, .inr h2⟩
    refine ⟨_, rfl, _, _, _, _, _, rfl, .ty "bool", tx, (is1 "bool" (by decide)), _, rfl, LK.ifF nb ?_⟩
    refine ⟨_, rfl, _, _, _, _, _, rfl, .ty "bool", ty, (is1 "bool" (by decide)), _, rfl, LK.ifF nb ?_⟩
    refine ⟨_, rfl, _, _, _, _, _, rfl, .ty "list", tx, (is1 "list" (by decide)), _, rfl, _, _, _, _, _, rfl, .ty "list", ty, (is1 "list" (by decide)), rfl, _, rfl, LK.ifF (by simp) ?_⟩
    refine ⟨_, rfl, _, _, _, _, _, rfl, .ty "tuple", tx, (is1 "tuple" (by decide)), _, rfl, _, _, _, _, _, rfl, .ty "tuple", ty, (is1 "tuple" (by decide)), rfl, _, rfl, LK.ifF (by simp) ?_⟩
    refine ⟨_, rfl, _, _, _, _, _, rfl, .ty "str", tx, (is1 "str" (by decide)), _, rfl, _, _, _, _, _, rfl, .ty "str", ty, (is1 "str" (by decide)), rfl, _, rfl, LK.ifF (by simp) ?_⟩
    refine ⟨_, rfl, _, _, _, _, _, rfl, .ty "int", tx, (is1 "int" (by decide)), _, rfl, _, _, _, _, _, rfl, .ty "int", ty, (is1 "int" (by decide)), rfl, _, rfl, LK.ifF (by simp) ?_⟩
    refine ⟨_, rfl, by show 2 ≤ sizeLine; decide, fun tp ntp => ⟨_, tp, _, _, _, _, rfl, upd_same, .cons (.ty "list") (.cons (.ty "tuple") .nil), (ty2 _ (same_new ntp)), kl, _, rfl, ?_⟩⟩
    have s1 : Same H (upd H tp (.tup [.ty "list", .ty "tuple"])) := same_new ntp
    refine LK.ifT rfl ?_
    have sa1 := seq_same s1 sa
    have sb1 := seq_same s1 sb
    refine ⟨_, rfl, a, _, rfl, sa1, _, rfl, b, _, rfl, sb1, rfl, _, rfl, LK.ifF (by rw [ll]; simp) ?_⟩
    refine ⟨_, rfl, b, _, rfl, sb1, (ys.length : Int), rfl, by omega, by omega, fun D nD => ?_⟩
    refine lc_range (lo := 0) (n := ys.length) (fun j H' => Same (upd H tp (.tup [.ty "list", .ty "tuple"])) H' ∧ H' D = some (.lst [])) ⟨same_new nD, upd_same⟩ (fun j H' hj hh => ⟨rfl, ?_⟩) (fun H' hh => ?_)
    · obtain ⟨s2, hD⟩ := hh
      obtain ⟨v1, q1⟩ : ∃ v1, xs[j]? = some v1 := ⟨_, List.getElem?_eq_getElem (by omega)⟩
      obtain ⟨v2, p1⟩ : ∃ v2, ys[j]? = some v2 := ⟨_, List.getElem?_eq_getElem (by omega)⟩
      refine ⟨_, rfl, _, rfl, rix_of (seq_same s2 sa1) q1 (Int.zero_add _) ⟨_, rfl, _, rfl, rix_of (seq_same s2 sb1) p1 (Int.zero_add _) ?_⟩⟩
      exact ⟨v1, v2, rfl, (el j v1 v2 q1 p1).same (s1.trans s2), fun H3 s3 => ⟨_, rfl, LK.ifF rfl ⟨s2.trans s3, s3 _ _ hD⟩⟩⟩
    · obtain ⟨s2, hD⟩ := hh
      refine ⟨by show 0 ≤ sizeLine; decide, fun q nq => ?_⟩
      have s3 : Same H' (upd H' q (.lst [])) := same_new nq
      refine ⟨_, _, .lst (SqL.of (s3 _ _ hD)) .nil, .lst (SqL.of upd_same) .nil, by decide +kernel, by decide +kernel, ?_⟩
      exact k _ ((s1.trans s2).trans s3)
theorem mat_sim0 {f : Addr} {fd : FuncData} {CH : Addr} : FnOk P w K mg base CX0 0 f fd ["found", "due"] (spS K CH 0) :=
  ⟨fun vs H Q E h => by obtain ⟨_, _, _, h, _⟩ := h; exact h.elim, fun A outer s H args us vs Q E _ _ _ _ h => by obtain ⟨_, _, _, h, _⟩ := h; exact h.elim⟩
theorem mat_sim {f : Addr} {fd : FuncData} (n : Nat) (F : Fun K "_law_matched" "_law_matched" sMat f fd) (B : Bl mg) (g_ : mg "_law_matched" = some (.ref f)) (b_ : Binds K fd ["found", "due"] []) {CH : Addr} (it : InsTy K CH) (nk : NoK K CH) (U : ChQ P w K mg base CH) (D : FnOk P w K mg base CX0 (n + 1) f fd ["found", "due"] (spM K (n + 1))) (G : FnOk P w K mg base CX0 n f fd ["found", "due"] (spS K CH n)) :
    FnOk P w K mg base CX0 (n + 1) f fd ["found", "due"] (spS K CH (n + 1)) := by
  have C := mat_con n F B g_ b_ G
  refine ⟨fun vs H Q E h => by obtain ⟨_, _, rfl, _⟩ := h; rfl, fun A outer s H args us vs Q E r e bi rl h => ?_⟩
  obtain ⟨x, y, rfl, sim, k⟩ := h
  rcases sim with ⟨d, h1, h2, h3, h4, h5, h6⟩ | ⟨n1, rfl, p, size, rs, rfl, h4, h5⟩ | ⟨a, b, xs, ys, rfl, rfl, h, l1, l2, el⟩
  · exact D.run A outer s H args us _ Q E r e bi rl ⟨x, y, d, rfl, h1, h2, h3, h4, h5, h6, k⟩
  · exact (mat_obj n F B g_ b_ G it nk U n1).run A outer s H args us _ Q E r e bi rl ⟨p, size, rs, rfl, h4, h5, k⟩
  · exact C.run A outer s H args us _ Q E r e bi rl ⟨a, b, xs, ys, rfl, h, l1, l2, el, k⟩
end
end T6
/-! _law_due -/
namespace T6
open PySem PySem.Spec PyProof.Rows L2 LK MXi MXg MY MZ
/-- what is due: (which error, its value) -/
def Res (H : Hp) (p : Addr) (v0 v1 v2 v3 v4 : V) (both : Bool) (len : Int) : Prop :=
  (szV v0 = false ∧ H p = some (.tup [.int 1, v0])) ∨ (szV v0 = true ∧ szV v1 = false ∧ H p = some (.tup [.int 1, v1])) ∨
  (szV v0 = true ∧ szV v1 = true ∧ both = true ∧ plV (nV v1) len v2 v3 v4 = false ∧ ∃ q, H p = some (.tup [.int 2, .ref q]) ∧ H q = some (.tup [v2, v3, v4])) ∨
  (szV v0 = true ∧ szV v1 = true ∧ (both = true → plV (nV v1) len v2 v3 v4 = true) ∧ H p = some (.tup [.int 0, .non]))
def spJue (K : PySem.W.Frag) (CH : Addr) : Sp := fun vs H Q _ => ∃ (t Ld so : Addr) (xs : List V) (size : Nat) (rs : List Rw) (v0 v1 v2 v3 v4 : V) (both : Bool), vs = [.ref t, .ref so, .bl both] ∧ Plan K H t Ld xs size rs ∧ rs.length ≤ 1000 ∧ SqT K H so [v0, v1, v2, v3, v4] ∧ Thg K CH H v0 ∧ Thg K CH H v1 ∧ Thg K CH H v2 ∧ Thg K CH H v3 ∧ Thg K CH H v4 ∧
  ∀ (p : Addr) (H' : Hp), Same H H' → Res H' p v0 v1 v2 v3 v4 both (rs.length : Nat) → Q (.ref p) H'
section
variable {P : Program} {w : World} {K : PySem.W.Frag} {mg : Str → Option Value} {base : Heap} {CH : Addr}
abbrev sJue : Stmt := top 45
theorem scJue : FnScope ["plan", "some", "both", "k", "most"] ["plan", "some", "both"] (defScope sJue) := ⟨rfl, rfl, rfl, by decide +kernel, rfl, by decide +kernel, by decide +kernel⟩
theorem ok_Jue {f : Addr} {fd : FuncData} (F : Fun K "_law_due" "_law_due" sJue f fd) (B : Bl mg)
    {f__law_is_int : Addr} {d__law_is_int : FuncData} (G__law_is_int : FnOk P w K mg base CX0 1 f__law_is_int d__law_is_int ["thing"] (spIntV K CH)) (g__law_is_int : mg "_law_is_int" = some (.ref f__law_is_int)) (k__law_is_int : PySem.W.keepIn K (.ref f__law_is_int) = true) (b__law_is_int : Binds K d__law_is_int ["thing"] []) : FnOk P w K mg base CX0 2 f fd ["plan", "some", "both"] (spJue K CH) := by
  refine F.ok scJue (fun vs H Q E h => ?_) (fun cdv A outer s H vs Q E hr h => ?_)
  · obtain ⟨t, Ld, so, xs, size, rs, v0, v1, v2, v3, v4, both, rfl, _⟩ := h
    rfl
  · obtain ⟨t, Ld, so, xs, size, rs, v0, v1, v2, v3, v4, both, rfl, pl, rl, hso, g0, g1, g2, g3, g4, k⟩ := h
    refine ⟨_, pss_cons (ps_for PassesOwn.never rfl (pi_range1 (by rfl) (B "range" (by decide)) (pa_cons pe_int pa_nil)) (pg_name (i := 3) scJue.nd rfl (Or.inl rfl)) (pss_one (ps_if (PW.pt (pw_or (pt_not (pt_val (pe_call (E := E0) G__law_is_int (hr.mono (by decide)) rfl g__law_is_int k__law_is_int b__law_is_int .nil pass0 (pa_cons (pe_ix (ixt (K := K)) (pv 1) (pv 3) (fun _ _ => rfl)) pa_nil)))) (pw_or1 (pt_cmpR op_lt (pe_ix (ixt (K := K)) (pv 1) (pv 3) (fun _ _ => rfl)) pe_int (nomark _))))) (pss_one (ps_ret (pe_tup (pa_cons pe_int (pa_cons (pe_ix (ixt (K := K)) (pv 1) (pv 3) (fun _ _ => rfl)) pa_nil))))) pss_nil)))
      (pss_cons (ps_if (pt_val (pv 2)) (pss_cons (ps_for PassesOwn.never rfl (pi_tup (pe_tup (pa_cons (pe_tup (pa_cons pe_int (pa_cons (pe_ix (ixt (K := K)) (pv 1) pe_int (fun _ _ => rfl)) pa_nil))) (pa_cons (pe_tup (pa_cons pe_int (pa_cons (pe_callB call_len_seq (by rfl) (B "len" (by decide)) (by decide +kernel) (pa_cons (pe_ix (ixt (K := K)) (pv 0) pe_int (fun _ _ => rfl)) pa_nil)) pa_nil))) pa_nil)))) (pg_tup rfl (pgs_cons (pg_name (i := 3) scJue.nd rfl (Or.inl rfl)) (pgs_cons (pg_name (i := 4) scJue.nd rfl (Or.inl rfl)) pgs_nil))) (pss_one (ps_if (PW.pt (pw_or (pt_not (pt_val (pe_call (E := E0) G__law_is_int (hr.mono (by decide)) rfl g__law_is_int k__law_is_int b__law_is_int .nil pass0 (pa_cons (pe_ix (ixt (K := K)) (pv 1) (pv 3) (fun _ _ => rfl)) pa_nil)))) (pw_or1 (pt_not (pt_chain op_le op_lt pe_int (pe_ix (ixt (K := K)) (pv 1) (pv 3) (fun _ _ => rfl)) (pv 4)))))) (pss_one (ps_ret (pe_tup (pa_cons pe_int (pa_cons (pe_slice sl_tupA (pv 1) (po_some pe_int) po_none) pa_nil))))) pss_nil)))
      (pss_one (ps_if (pt_not (pt_val (pe_call (E := E0) G__law_is_int (hr.mono (by decide)) rfl g__law_is_int k__law_is_int b__law_is_int .nil pass0 (pa_cons (pe_ix (ixt (K := K)) (pv 1) pe_int (fun _ _ => rfl)) pa_nil)))) (pss_one (ps_ret (pe_tup (pa_cons pe_int (pa_cons (pe_slice sl_tupA (pv 1) (po_some pe_int) po_none) pa_nil))))) pss_nil))) pss_nil)
      (pss_one (ps_ret (pe_tup (pa_cons pe_int (pa_cons pe_non pa_nil)))))), ?_⟩
    have ty2 : sizeLine = 16777216 := sizeLine_eq
    have xl := dps_len pl.dL
    rw [List.length_map] at xl
    dsimp only [tSeq]
    refine stR (fun σ Hn => ∃ o3 : Option V, σ = [some (.ref t), some (.ref so), some (.bl both), o3, none] ∧ Same H Hn ∧ szV v0 = true ∧ szV v1 = true) (fun D' ret aft => ?_) ?_
    · refine ⟨2, rfl, by decide, by decide, ?_⟩
      refine for_range (lo := 0) (n := 2) (fun j σ Hn => ∃ o3 : Option V, σ = [some (.ref t), some (.ref so), some (.bl both), o3, none] ∧ Same H Hn ∧ (1 ≤ j → szV v0 = true) ∧ (2 ≤ j → szV v1 = true)) ⟨_, rfl, Same.refl H, fun h => absurd h (by decide), fun h => absurd h (by decide)⟩ (fun j σ Hn hj hI => ?_) (fun σ Hn hI => ?_)
      · obtain ⟨o3, rfl, s, a0, a1⟩ := hI
        obtain ⟨v, hv, gv, hb⟩ : ∃ v, [v0, v1, v2, v3, v4][j]? = some v ∧ Thg K CH H v ∧ ((j = 0 ∧ v = v0) ∨ (j = 1 ∧ v = v1)) := by
          match j, hj with
          | 0, _ => exact ⟨v0, rfl, g0, .inl ⟨rfl, rfl⟩⟩
          | 1, _ => exact ⟨v1, rfl, g1, .inr ⟨rfl, rfl⟩⟩
          | j + 2, h => exact absurd h (by omega)
        dsimp only [gName, List.set]
        rw [show (0 : Int) + (j : Int) = (j : Int) from Int.zero_add _]
        refine ⟨_, rfl, _, rfl, so, _, _, _, rfl, rfl, same_tup s hso, atI_nat hv, v, rfl, gv.same s, fun H1 s1 => ?_⟩
        have s01 := s.trans s1
        have bad : ∀ {Hk : Hp}, Same H Hk → szV v = false → ∀ p, Hk p = none → D'.rt (.ref p) (upd Hk p (.tup [.int 1, v])) := fun {Hk} sk e p np => ret _ _ (by
          have tp := same_new (o := .tup [.int 1, v]) np
          rcases hb with ⟨rfl, rfl⟩ | ⟨rfl, rfl⟩
          · exact k p _ (sk.trans tp) (.inl ⟨e, upd_same⟩)
          · exact k p _ (sk.trans tp) (.inr (.inl ⟨a0 (by decide), e, upd_same⟩)))
        refine ⟨_, rfl, ?_⟩
        cases e1 : isIV v with
        | false =>
          have en : szV v = false := by
            cases v <;> first | rfl | exact absurd e1 (by simp [isIV])
          refine LK.ifT rfl (LK.ifT rfl ?_)
          exact ⟨_, rfl, _, rfl, so, _, _, _, rfl, rfl, same_tup s01 hso, atI_nat hv, by show 2 ≤ sizeLine; decide, fun p np => bad s01 en p np⟩
        | true =>
          obtain ⟨i, rfl⟩ := isIV_int e1
          refine LK.ifF rfl ?_
          refine ⟨_, rfl, _, rfl, so, _, _, _, rfl, rfl, same_tup s01 hso, atI_nat hv, _, _, rfl, rfl, _, rfl, ?_⟩
          by_cases c : i < 1
          · refine LK.ifT (decide_eq_true c) ?_
            exact ⟨_, rfl, _, rfl, so, _, _, _, rfl, rfl, same_tup s01 hso, atI_nat hv, by show 2 ≤ sizeLine; decide, fun p np => bad s01 (decide_eq_false (by omega)) p np⟩
          · refine LK.ifF (decide_eq_false c) ?_
            have good : szV (.int i) = true := decide_eq_true (by omega)
            refine ⟨_, rfl, s01, fun _ => ?_, fun h2 => ?_⟩
            · rcases hb with ⟨rfl, rfl⟩ | ⟨rfl, rfl⟩
              · exact good
              · exact a0 (by decide)
            · rcases hb with ⟨rfl, rfl⟩ | ⟨rfl, rfl⟩
              · exact absurd h2 (by decide)
              · exact good
      · obtain ⟨o3, rfl, s, a0, a1⟩ := hI
        exact aft _ _ ⟨_, rfl, s, a0 (by decide), a1 (by decide)⟩
    rintro σ Hn ⟨o3, rfl, s, z0, z1⟩
    obtain ⟨n, rfl⟩ := isIV_int (szV_int z1)
    have hsn := same_tup s hso
    have pln := pl.same s
    dsimp only [tSeq]
    refine ⟨_, rfl, _, rfl, ?_⟩
    cases both with
    | false =>
      refine LK.ifF rfl ?_
      exact ⟨by show 2 ≤ sizeLine; decide, fun p np => k p _ (s.trans (same_new np)) (.inr (.inr (.inr ⟨z0, z1, fun h => (nomatch h), upd_same⟩)))⟩
    | true =>
    refine LK.ifT rfl ?_
    dsimp only [tSeq]
    have hp2 : plV (nV (.int n)) ((rs.length : Nat) : Int) v2 v3 v4 = (isNV n v2 && (isNV ((rs.length : Nat) : Int) v3 && isIV v4)) := rfl
    have sli : ∀ {Hk : Hp}, Same H Hk → (isNV n v2 && (isNV ((rs.length : Nat) : Int) v3 && isIV v4)) = false → ∀ q, Hk q = none → ∀ p, upd Hk q (.tup [v2, v3, v4]) p = none → Q (.ref p) (upd (upd Hk q (.tup [v2, v3, v4])) p (.tup [.int 2, .ref q])) := fun {Hk} sk e q nq p np => by
      have tq := same_new (o := .tup [v2, v3, v4]) nq
      have tp := same_new (o := .tup [.int 2, .ref q]) np
      exact k p _ (sk.trans (tq.trans tp)) (.inr (.inr (.inl ⟨z0, z1, rfl, e, q, upd_same, tp _ _ upd_same⟩)))
    refine stR (fun σ Hm => ∃ o3 o4 : Option V, σ = [some (.ref t), some (.ref so), some (.bl true), o3, o4] ∧ Same H Hm ∧ isNV n v2 = true ∧ isNV ((rs.length : Nat) : Int) v3 = true) (fun D' ret aft => ?_) ?_
    · refine ⟨_, rfl, so, _, 1, _, rfl, rfl, hsn, atI_nat (j := 1) rfl, by show 2 ≤ sizeLine; decide, fun a na => ?_⟩
      have ta := same_new (o := .tup [.int 2, .int n]) na
      have ea := upd_same (H := Hn) (a := a) (o := .tup [.int 2, .int n])
      generalize upd Hn a (.tup [.int 2, .int n]) = H1 at ta ea
      refine ⟨_, rfl, t, _, 1, _, rfl, rfl, SqT.of (ta _ _ pln.et), atI_nat (j := 1) rfl, Ld, _, rfl, .inl (SqL.of (ta _ _ pln.eL)), ?_⟩
      rw [xl]
      refine ⟨by show 2 ≤ sizeLine; decide, fun b nb => ?_⟩
      have tb := same_new (o := .tup [.int 3, .int ((rs.length : Nat) : Int)]) nb
      have eb := upd_same (H := H1) (a := b) (o := .tup [.int 3, .int ((rs.length : Nat) : Int)])
      have ea2 := tb _ _ ea
      generalize upd H1 b (.tup [.int 3, .int ((rs.length : Nat) : Int)]) = H2 at tb eb ea2
      refine ⟨by show 2 ≤ sizeLine; decide, fun c nc => ?_⟩
      have tc := same_new (o := .tup [.ref a, .ref b]) nc
      have ec := upd_same (H := H2) (a := c) (o := .tup [.ref a, .ref b])
      have ea3 := tc _ _ ea2
      have eb3 := tc _ _ eb
      have s3 := s.trans (ta.trans (tb.trans tc))
      generalize upd H2 c (.tup [.ref a, .ref b]) = H3 at tc ec ea3 eb3 s3
      refine ⟨c, rfl, ⟨_, SqT.of ec⟩, ?_⟩
      refine for_tup (K := K) (a := c) (xs := [.ref a, .ref b]) (fun j σ Hm => ∃ o3 o4 : Option V, σ = [some (.ref t), some (.ref so), some (.bl true), o3, o4] ∧ Same H3 Hm ∧ (1 ≤ j → isNV n v2 = true) ∧ (2 ≤ j → isNV ((rs.length : Nat) : Int) v3 = true))
        ⟨_, _, rfl, Same.refl _, fun h => absurd h (by decide), fun h => absurd h (by decide)⟩ (fun j σ Hm hj hI => by obtain ⟨_, _, _, s, _⟩ := hI; exact SqT.of (s _ _ ec)) (fun j x σ Hm hx hI => ?_) (fun σ Hm hI => ?_)
      · obtain ⟨o3, o4, rfl, s4, a0, a1⟩ := hI
        obtain ⟨q, kk, mm, v, rfl, eq, hv, gv, hb⟩ : ∃ (q : Addr) (kk : Nat) (mm : Int) (v : V), x = .ref q ∧ H3 q = some (.tup [.int (kk : Int), .int mm]) ∧ [v0, .int n, v2, v3, v4][kk]? = some v ∧ Thg K CH H v ∧ ((j = 0 ∧ v = v2 ∧ mm = n) ∨ (j = 1 ∧ v = v3 ∧ mm = ((rs.length : Nat) : Int))) := by
          match j, hx with
          | 0, hx => exact ⟨a, 2, n, v2, (Option.some.inj hx).symm, ea3, rfl, g2, .inl ⟨rfl, rfl, rfl⟩⟩
          | 1, hx => exact ⟨b, 3, _, v3, (Option.some.inj hx).symm, eb3, rfl, g3, .inr ⟨rfl, rfl, rfl⟩⟩
          | j + 2, hx => exact absurd hx (by simp)
        refine ⟨q, _, rfl, SqT.of (s4 _ _ eq), rfl, ?_⟩
        refine ⟨_, _, rfl, _, _, rfl, rfl, ?_⟩
        dsimp only [gName, gCons, gNil, List.set, tSeq]
        have s04 := s3.trans s4
        refine ⟨_, rfl, _, rfl, so, _, _, _, rfl, rfl, same_tup s04 hso, atI_nat hv, v, rfl, gv.same s04, fun H5 s5 => ?_⟩
        have s05 := s04.trans s5
        have bad : isNV mm v = false → (isNV n v2 && (isNV ((rs.length : Nat) : Int) v3 && isIV v4)) = false := fun e => by
          rcases hb with ⟨rfl, rfl, rfl⟩ | ⟨rfl, rfl, rfl⟩
          · rw [e]
            rfl
          · rw [e, Bool.false_and, Bool.and_false]
        refine ⟨_, rfl, ?_⟩
        cases e1 : isIV v with
        | false =>
          have en : isNV mm v = false := by
            cases v <;> first | rfl | exact absurd e1 (by simp [isIV])
          refine LK.ifT rfl (LK.ifT rfl ?_)
          exact ⟨_, rfl, _, rfl, so, _, rfl, same_tup s05 hso, fun h => absurd h.1 (by show ¬ HT.sIx 5 0 (some 2) = 0; decide), fun _ q nq => ⟨by show 2 ≤ sizeLine; decide, fun p np => ret _ _ (sli s05 (bad en) q nq p np)⟩⟩
        | true =>
          obtain ⟨i, rfl⟩ := isIV_int e1
          refine LK.ifF rfl ?_
          refine ⟨_, rfl, _, rfl, so, _, _, _, rfl, rfl, same_tup s05 hso, atI_nat hv, _, _, rfl, rfl, _, rfl, ?_⟩
          by_cases c0 : 0 ≤ i
          · refine LK.ifT (decide_eq_true c0) ⟨_, rfl, _, _, rfl, rfl, _, rfl, ?_⟩
            by_cases c1 : i < mm
            · refine LK.ifF (by rw [decide_eq_true c1]; rfl) ?_
              have good : isNV mm (.int i) = true := decide_eq_true ⟨c0, c1⟩
              refine ⟨_, _, rfl, s4.trans s5, fun _ => ?_, fun h2 => ?_⟩
              · rcases hb with ⟨rfl, rfl, rfl⟩ | ⟨rfl, rfl, rfl⟩
                · exact good
                · exact a0 (by decide)
              · rcases hb with ⟨rfl, rfl, rfl⟩ | ⟨rfl, rfl, rfl⟩
                · exact absurd h2 (by decide)
                · exact good
            · refine LK.ifT (by rw [decide_eq_false c1]; rfl) ?_
              exact ⟨_, rfl, _, rfl, so, _, rfl, same_tup s05 hso, fun h => absurd h.1 (by show ¬ HT.sIx 5 0 (some 2) = 0; decide), fun _ q nq => ⟨by show 2 ≤ sizeLine; decide, fun p np => ret _ _ (sli s05 (bad (decide_eq_false fun h => c1 h.2)) q nq p np)⟩⟩
          · refine LK.ifF (decide_eq_false c0) ⟨_, rfl, LK.ifT rfl ?_⟩
            exact ⟨_, rfl, _, rfl, so, _, rfl, same_tup s05 hso, fun h => absurd h.1 (by show ¬ HT.sIx 5 0 (some 2) = 0; decide), fun _ q nq => ⟨by show 2 ≤ sizeLine; decide, fun p np => ret _ _ (sli s05 (bad (decide_eq_false fun h => c0 h.1)) q nq p np)⟩⟩
      · obtain ⟨o3, o4, rfl, s4, a0, a1⟩ := hI
        exact aft _ _ ⟨_, _, rfl, s3.trans s4, a0 (by show 1 ≤ 2; decide), a1 (by show 2 ≤ 2; decide)⟩
    rintro σ Hm ⟨o3, o4, rfl, sm, p2, p3⟩
    have fin : isIV v4 = (isNV n v2 && (isNV ((rs.length : Nat) : Int) v3 && isIV v4)) := by rw [p2, p3]; rfl
    refine ⟨_, rfl, so, _, 4, _, rfl, rfl, same_tup sm hso, atI_nat (j := 4) rfl, v4, rfl, g4.same sm, fun H5 s5 => ?_⟩
    have s05 := sm.trans s5
    refine ⟨_, rfl, ?_⟩
    cases e4 : isIV v4 with
    | false =>
      refine LK.ifT rfl ?_
      exact ⟨_, rfl, _, rfl, so, _, rfl, same_tup s05 hso, fun h => absurd h.1 (by show ¬ HT.sIx 5 0 (some 2) = 0; decide), fun _ q nq => ⟨by show 2 ≤ sizeLine; decide, fun p np => sli s05 (fin.symm.trans e4) q nq p np⟩⟩
    | true =>
      refine LK.ifF rfl ?_
      exact ⟨by show 2 ≤ sizeLine; decide, fun p np => k p _ (s05.trans (same_new np)) (.inr (.inr (.inr ⟨z0, z1, fun _ => fin.symm.trans e4, upd_same⟩)))⟩
end
end T6
/-! _law_refusal -/
namespace T6
open PySem PySem.Spec PyProof.Rows L2 LK L2H RZ MXb MXd MXe MXf MXi MXg MXj MXl MY MZ
open MXf
abbrev sRfu : Stmt := top 46
theorem scRfu : FnScope ["net", "some", "both", "found", "e", "which"] ["net", "some", "both"] (defScope sRfu) := ⟨rfl, rfl, rfl, by decide +kernel, rfl, by decide +kernel, by decide +kernel⟩
/-- what is known of the errors' classes -/
structure ErV (K : PySem.W.Frag) (mg : Str → Option Value) (CR CS CP : Addr) : Prop where
  gR : mg "RunError" = some (.ref CR)
  gS : mg "InvalidSize" = some (.ref CS)
  gP : mg "InvalidPlace" = some (.ref CP)
  uS : PySem.W.exmOne K (.ref CS) (.ref CR) = some true
  uP : PySem.W.exmOne K (.ref CP) (.ref CR) = some true
  SS : PySem.W.kitOne K (.ref CS) (.ref CS) = some true
  SP : PySem.W.kitOne K (.ref CS) (.ref CP) = some false
  PS : PySem.W.kitOne K (.ref CP) (.ref CS) = some false
  PP : PySem.W.kitOne K (.ref CP) (.ref CP) = some true
  vS : PySem.W.kitOne K (.ref CS) (.type "ValueError") = some true
  vP : PySem.W.kitOne K (.ref CP) (.type "ValueError") = some true
theorem isNV_nat {many : Int} {v : V} (h : isNV many v = true) : ∃ n : Nat, v = .int (n : Int) ∧ (n : Int) < many := by
  cases v with
  | int i =>
    have := of_decide_eq_true h
    exact ⟨i.toNat, by congr 1; omega, by omega⟩
  | _ => cases h
def spCatV (K : PySem.W.Frag) (CC CH CS : Addr) : Sp := fun vs H Q E => spCat K CC CH vs H Q E ∨ spCatR K CH CS vs H Q E
def spLatV (K : PySem.W.Frag) (CH CS CP : Addr) : Sp := fun vs H Q E => spLat K CH vs H Q E ∨ spLatR K CH CS CP vs H Q E
def spRfu (K : PySem.W.Frag) (CH : Addr) : Sp := fun vs H Q _ => ∃ (x so : Addr) (size : Nat) (rs : List Rw) (v0 v1 v2 v3 v4 : V) (both : Bool), vs = [.ref x, .ref so, .bl both] ∧ IsH K CH H x size rs ∧ OkCh size rs ∧ SqT K H so [v0, v1, v2, v3, v4] ∧ Thg K CH H v0 ∧ Thg K CH H v1 ∧ Thg K CH H v2 ∧ Thg K CH H v3 ∧ Thg K CH H v4 ∧
  (szV v0 = true → ∃ m : Nat, v0 = .int (m : Int) ∧ 1 ≤ m ∧ m ≤ 8) ∧ (szV v1 = true → ∃ n : Nat, v1 = .int (n : Int) ∧ 1 ≤ n ∧ n ≤ 8) ∧ (∀ m n : Nat, v0 = .int (m : Int) → v1 = .int (n : Int) → 1 ≤ m → 1 ≤ n → m * (size + n * Pf rs rs.length) ≤ 1000) ∧
  ∀ (p : Addr) (H' : Hp), Same H H' → Res H' p v0 v1 v2 v3 v4 both (rs.length : Nat) → Q (.ref p) H'
def tRs (K : PySem.W.Frag) (CS CP X : Addr) : Addr → Addr → Addr → TS := fun a C d =>
  tSeq (tAsg (tLst (tCons (tCB (rIsP K a C d) (tCons (tVar 4) (tCons (tC (.ref CS)) tNil))) (tCons (tCB (rIsP K a C d) (tCons (tVar 4) (tCons (tC (.ref CP)) tNil))) tNil))) (gName 5))
    (tAsg (tTup (tCons (tIf (tAnd (tTest (tOp rEq (tBM K "list" (rCntB K) (tVar 5) (tCons (tC (.bl true)) tNil)) (tC (.int 1)))) (tB (tCB (rIsP K a C d) (tCons (tVar 4) (tCons (tC (.ty "ValueError")) tNil)))))
      (tOp (rI0 fun i j => V.int (i + j)) (tBM K "list" (rIndex K) (tVar 5) (tCons (tC (.bl true)) tNil)) (tC (.int 1))) (tC (.int 9))) (tCons (tXf a (.ref C) (some d) X "value" (tVar 4)) tNil))) (gName 3))
def tRs2 (K : PySem.W.Frag) (CS CP : Addr) : Addr → Addr → Addr → TS := fun a C d => if C = CS then tRs K CS CP CS a C d else tRs K CS CP CP a C d
section
variable {P : Program} {w : World} {K : PySem.W.Frag} {mg : Str → Option Value} {base : Heap} {CC CH CR CS CP fI : Addr}
theorem ok_Rfu {f fC fL : Addr} {fd dC dL : FuncData} (F : Fun K "_law_refusal" "_law_refusal" sRfu f fd) (B : Bl mg) (T : ErV K mg CR CS CP) (XS : XC K mg fI CS "InvalidSize" "value") (XP : XC K mg fI CP "InvalidPlace" "value")
    (GC : FnOk P w K mg base (L2N.CX P w) 8 fC dC ["chart", "m", "n"] (spCatV K CC CH CS)) (gC : mg "cloth_at" = some (.ref fC)) (kC : PySem.W.keepIn K (.ref fC) = true) (bC : Binds K dC ["chart", "m", "n"] [])
    (GL : FnOk P w K mg base (L2N.CX P w) 8 fL dL ["chart", "m", "n", "time", "row", "number"] (spLatV K CH CS CP)) (gL : mg "loop_at" = some (.ref fL)) (kL : PySem.W.keepIn K (.ref fL) = true) (bL : Binds K dL ["chart", "m", "n", "time", "row", "number"] []) : FnOk P w K mg base CX0 9 f fd ["net", "some", "both"] (spRfu K CH) := by
  refine F.ok scRfu (fun vs H Q E h => ?_) (fun cdv A outer s H vs Q E hr h => ?_)
  · obtain ⟨x, so, size, rs, v0, v1, v2, v3, v4, both, rfl, _⟩ := h
    rfl
  · obtain ⟨x, so, size, rs, v0, v1, v2, v3, v4, both, rfl, isx, ok, hso, g0, g1, g2, g3, g4, hm, hn, hmn, k⟩ := h
    refine ⟨_, pss_cons (ps_set (i := 3) scRfu.nd rfl (Or.inl rfl) (pe_tup (pa_cons pe_int (pa_cons pe_non pa_nil))))
      (pss_cons (L2N.ps_try_asL (i := 4) (l := [(.ref CR, tErr (tRs2 K CS CP))])
          (tb := fun W => tIfS (tB (tVar 2)) (tDrop (tCallS (spLatV K CH CS CP) (WE W) (tCons (tVar 0) (tCons (tOp (rIxT K) (tVar 1) (tC (.int 0))) (tCons (tOp (rIxT K) (tVar 1) (tC (.int 1))) (tCons (tOp (rIxT K) (tVar 1) (tC (.int 2))) (tCons (tOp (rIxT K) (tVar 1) (tC (.int 3))) (tCons (tOp (rIxT K) (tVar 1) (tC (.int 4))) tNil)))))))) (tDrop (tCallS (spCatV K CC CH CS) (WE W) (tCons (tVar 0) (tCons (tOp (rIxT K) (tVar 1) (tC (.int 0))) (tCons (tOp (rIxT K) (tVar 1) (tC (.int 1))) tNil)))))) (out := fun _ _ _ _ => False) rfl rfl scRfu.nd rfl rfl none0
          (fun W held xe tk _ => pss_one (ps_if (pt_val (pv 2)) (pss_one (ps_expr (by exact (pe_callS GL (hr.mono (by decide)) rfl gL kL bL (fun σ => L2N.passAt tk σ) (by exact (pa_cons (pv 0) (pa_cons (pe_ix (ixt (K := K)) (pv 1) pe_int (fun _ _ => rfl)) (pa_cons (pe_ix (ixt (K := K)) (pv 1) pe_int (fun _ _ => rfl)) (pa_cons (pe_ix (ixt (K := K)) (pv 1) pe_int (fun _ _ => rfl)) (pa_cons (pe_ix (ixt (K := K)) (pv 1) pe_int (fun _ _ => rfl)) (pa_cons (pe_ix (ixt (K := K)) (pv 1) pe_int (fun _ _ => rfl)) pa_nil)))))))))))
            (pss_one (ps_expr (by exact (pe_callS GC (hr.mono (by decide)) rfl gC kC bC (fun σ => L2N.passAt tk σ) (by exact (pa_cons (pv 0) (pa_cons (pe_ix (ixt (K := K)) (pv 1) pe_int (fun _ _ => rfl)) (pa_cons (pe_ix (ixt (K := K)) (pv 1) pe_int (fun _ _ => rfl)) pa_nil))))))))))
          (.cons ⟨rfl, by decide, Or.inl T.gR⟩ (fun e o k d held hz hf => ps_err hz hf fun C dd ep => by
            unfold tRs2
            by_cases hC : C = CS
            · rw [if_pos hC]
              exact (pss_cons (ps_set (i := 5) scRfu.nd rfl (Or.inl rfl) (by exact (pe_lst (pa_cons (pe_callB (call_isP (p := (e, o)) List.mem_cons_self ep) (by rfl) (B "isinstance" (by decide)) (by decide +kernel) (pa_cons (pv 4) (pa_cons (pe_glob rfl T.gS (v := .ref CS) rfl) pa_nil))) (pa_cons (pe_callB (call_isP (p := (e, o)) List.mem_cons_self ep) (by rfl) (B "isinstance" (by decide)) (by decide +kernel) (pa_cons (pv 4) (pa_cons (pe_glob rfl T.gP (v := .ref CP) rfl) pa_nil))) pa_nil)))))
              (pss_one (ps_set (i := 3) scRfu.nd rfl (Or.inl rfl) (by exact (pe_tup (pa_cons (pe_ifExp (PW.pt (pw_and (pt_cmpR op_eq (pe_bm PySem.F.plainAttrs_list PySem.F.slot_list_count PySem.F.type_list_count mt_countB (pv 5) (pa_cons pe_bl pa_nil)) pe_int (nomark _)) (pw_and1 (pt_val (pe_callB (call_isP (p := (e, o)) List.mem_cons_self ep) (by rfl) (B "isinstance" (by decide)) (by decide +kernel) (pa_cons (pv 4) (pa_cons (pe_bltn (v := .ty "ValueError") rfl (B "ValueError" (by decide)) (by decide +kernel) rfl) pa_nil)))))))
                (pe_op op_add (pe_bm PySem.F.plainAttrs_list PySem.F.slot_list_index PySem.F.type_list_index mt_index (pv 5) (pa_cons pe_bl pa_nil)) pe_int) pe_int) (pa_cons (pe_xf XS.xf XS.noF ep.z hf (pv 4)) pa_nil)))))))
            · rw [if_neg hC]
              exact (pss_cons (ps_set (i := 5) scRfu.nd rfl (Or.inl rfl) (by exact (pe_lst (pa_cons (pe_callB (call_isP (p := (e, o)) List.mem_cons_self ep) (by rfl) (B "isinstance" (by decide)) (by decide +kernel) (pa_cons (pv 4) (pa_cons (pe_glob rfl T.gS (v := .ref CS) rfl) pa_nil))) (pa_cons (pe_callB (call_isP (p := (e, o)) List.mem_cons_self ep) (by rfl) (B "isinstance" (by decide)) (by decide +kernel) (pa_cons (pv 4) (pa_cons (pe_glob rfl T.gP (v := .ref CP) rfl) pa_nil))) pa_nil)))))
              (pss_one (ps_set (i := 3) scRfu.nd rfl (Or.inl rfl) (by exact (pe_tup (pa_cons (pe_ifExp (PW.pt (pw_and (pt_cmpR op_eq (pe_bm PySem.F.plainAttrs_list PySem.F.slot_list_count PySem.F.type_list_count mt_countB (pv 5) (pa_cons pe_bl pa_nil)) pe_int (nomark _)) (pw_and1 (pt_val (pe_callB (call_isP (p := (e, o)) List.mem_cons_self ep) (by rfl) (B "isinstance" (by decide)) (by decide +kernel) (pa_cons (pv 4) (pa_cons (pe_bltn (v := .ty "ValueError") rfl (B "ValueError" (by decide)) (by decide +kernel) rfl) pa_nil)))))))
                (pe_op op_add (pe_bm PySem.F.plainAttrs_list PySem.F.slot_list_index PySem.F.type_list_index mt_index (pv 5) (pa_cons pe_bl pa_nil)) pe_int) pe_int) (pa_cons (pe_xf XP.xf XP.noF ep.z hf (pv 4)) pa_nil)))))))) .nil))
      (pss_one (ps_ret (pv 3)))), ?_⟩
    have ty2 : sizeLine = 16777216 := sizeLine_eq
    refine ⟨by show 2 ≤ sizeLine; decide, fun f0 nf0 => ?_⟩
    have t0 := same_new (o := .tup [.int 0, .non]) nf0
    have ef0 := upd_same (H := H) (a := f0) (o := .tup [.int 0, .non])
    generalize upd H f0 (.tup [.int 0, .non]) = H1 at t0 ef0
    dsimp only [gName, List.set, tSeq]
    have nCP : CP ≠ CS := fun e => by
      have h1 := T.PS
      rw [e, T.SS] at h1
      cases h1
    have suS : ∀ {D' : Ends} {a dd : Addr} {H2 : Hp} {val : V} {o5 : Option V}, H2 dd = some (.xd [("value", val)]) → (∀ (p : Addr) (H3 : Hp) (o5 : Option V), Same H2 H3 → H3 p = some (.tup [.int 1, val]) → D'.nx [some (.ref x), some (.ref so), some (.bl both), some (.ref p), none, o5] H3) →
        tErr (tRs2 K CS CP) a (.ref CS) (some dd) (L2N.fall 4 D') (([some (.ref x), some (.ref so), some (.bl both), some (.ref f0), none, o5] : L2.St).set 4 (some (.ref a))) H2 := fun {D' a dd H2 val o5} hd g => by
      dsimp only [tErr, tRs2]
      rw [if_pos rfl]
      dsimp only [tRs]
      refine ⟨_, rfl, XS.ec, _, _, _, _, rfl, fun _ r => r, T.SS, hd, ?_⟩
      refine ⟨_, rfl, XS.ec, _, _, _, _, rfl, fun _ r => r, T.SP, hd, ?_⟩
      refine ⟨by show 2 ≤ sizeLine; decide, fun w nw => ?_⟩
      have tw := same_new (o := .lst [.bl true, .bl false]) nw
      have ew := upd_same (H := H2) (a := w) (o := .lst [.bl true, .bl false])
      have hd2 := tw _ _ hd
      generalize upd H2 w (.lst [.bl true, .bl false]) = H3 at tw ew hd2
      refine ⟨_, rfl, .inl ⟨rfl, _, SqL.of ew⟩, w, [true, false], true, rfl, rfl, SqL.of ew, ?_⟩
      refine ⟨rfl, _, rfl, LK.ifT (by rw [dec_int]; rfl) ?_⟩
      refine ⟨_, rfl, XS.ec, _, _, _, _, rfl, fun _ r => r, T.vS, hd2, _, rfl, LK.ifT rfl ?_⟩
      refine ⟨_, rfl, .inl ⟨rfl, _, SqL.of ew⟩, w, _, .bl true, 0, .bl true, rfl, rfl, SqL.of ew, rfl, rfl, rfl, rfl, fun m z h => absurd h (Nat.not_lt_zero m), _, _, rfl, rfl, ?_⟩
      refine ⟨_, rfl, rfl, rfl, dd, _, _, rfl, hd2, rfl, by show 2 ≤ sizeLine; decide, fun p np => ?_⟩
      have tp := same_new (o := .tup [.int 1, val]) np
      exact g p _ _ (tw.trans tp) upd_same
    have suP : ∀ {D' : Ends} {a dd : Addr} {H2 : Hp} {val : V} {o5 : Option V}, H2 dd = some (.xd [("value", val)]) → (∀ (p : Addr) (H3 : Hp) (o5 : Option V), Same H2 H3 → H3 p = some (.tup [.int 2, val]) → D'.nx [some (.ref x), some (.ref so), some (.bl both), some (.ref p), none, o5] H3) →
        tErr (tRs2 K CS CP) a (.ref CP) (some dd) (L2N.fall 4 D') (([some (.ref x), some (.ref so), some (.bl both), some (.ref f0), none, o5] : L2.St).set 4 (some (.ref a))) H2 := fun {D' a dd H2 val o5} hd g => by
      dsimp only [tErr, tRs2]
      rw [if_neg nCP]
      dsimp only [tRs]
      refine ⟨_, rfl, XP.ec, _, _, _, _, rfl, fun _ r => r, T.PS, hd, ?_⟩
      refine ⟨_, rfl, XP.ec, _, _, _, _, rfl, fun _ r => r, T.PP, hd, ?_⟩
      refine ⟨by show 2 ≤ sizeLine; decide, fun w nw => ?_⟩
      have tw := same_new (o := .lst [.bl false, .bl true]) nw
      have ew := upd_same (H := H2) (a := w) (o := .lst [.bl false, .bl true])
      have hd2 := tw _ _ hd
      generalize upd H2 w (.lst [.bl false, .bl true]) = H3 at tw ew hd2
      refine ⟨_, rfl, .inl ⟨rfl, _, SqL.of ew⟩, w, [false, true], true, rfl, rfl, SqL.of ew, ?_⟩
      refine ⟨rfl, _, rfl, LK.ifT (by rw [dec_int]; rfl) ?_⟩
      refine ⟨_, rfl, XP.ec, _, _, _, _, rfl, fun _ r => r, T.vP, hd2, _, rfl, LK.ifT rfl ?_⟩
      refine ⟨_, rfl, .inl ⟨rfl, _, SqL.of ew⟩, w, _, .bl true, 1, .bl true, rfl, rfl, SqL.of ew, rfl, rfl, rfl, rfl, (fun m z h e => by match m, h, e with | 0, _, e => (cases e; rfl) | m + 1, h, _ => exact absurd h (by omega)), _, _, rfl, rfl, ?_⟩
      refine ⟨_, rfl, rfl, rfl, dd, _, _, rfl, hd2, rfl, by show 2 ≤ sizeLine; decide, fun p np => ?_⟩
      have tp := same_new (o := .tup [.int 2, val]) np
      exact g p _ _ (tw.trans tp) upd_same
    let D1 : Ends := { nx := tRet (tVar 3) ({ nx := fun _ H' => Q .non H', rt := Q } : Ends), rt := Q }
    have outS : ∀ {Hk : Hp} {val : V}, (∀ (p : Addr) (H3 : Hp), Same Hk H3 → H3 p = some (.tup [.int 1, val]) → Q (.ref p) H3) → Out CS Hk (WE (L2N.wL K 4 (fun _ _ _ _ => False) D1 [(.ref CR, tErr (tRs2 K CS CP))]) [some (.ref x), some (.ref so), some (.bl both), some (.ref f0), none, none]) val := fun {Hk val} g dd H2 nd s2 hd =>
      ⟨true, T.uS, fun _ a na => suS hd fun p H3 o5 s3 e3 => ⟨_, rfl, g p H3 (s2.trans s3) e3⟩, fun q => (nomatch q)⟩
    have outP : ∀ {Hk : Hp} {val : V}, (∀ (p : Addr) (H3 : Hp), Same Hk H3 → H3 p = some (.tup [.int 2, val]) → Q (.ref p) H3) → Out CP Hk (WE (L2N.wL K 4 (fun _ _ _ _ => False) D1 [(.ref CR, tErr (tRs2 K CS CP))]) [some (.ref x), some (.ref so), some (.bl both), some (.ref f0), none, none]) val := fun {Hk val} g dd H2 nd s2 hd =>
      ⟨true, T.uP, fun _ a na => suP hd fun p H3 o5 s3 e3 => ⟨_, rfl, g p H3 (s2.trans s3) e3⟩, fun q => (nomatch q)⟩
    have hs1 := same_tup t0 hso
    have is1 := isx.same t0
    have h0 := g0.same t0
    have h1 := g1.same t0
    have h2 := g2.same t0
    have h3 := g3.same t0
    have h4 := g4.same t0
    have kS0 : szV v0 = false → ∀ H', Same H1 H' → Out CS H' (WE (L2N.wL K 4 (fun _ _ _ _ => False) D1 [(.ref CR, tErr (tRs2 K CS CP))]) [some (.ref x), some (.ref so), some (.bl both), some (.ref f0), none, none]) v0 := fun e H' s' => outS fun p H3 s3 e3 => k p H3 (t0.trans (s'.trans s3)) (.inl ⟨e, e3⟩)
    have kS1 : szV v0 = true → szV v1 = false → ∀ H', Same H1 H' → Out CS H' (WE (L2N.wL K 4 (fun _ _ _ _ => False) D1 [(.ref CR, tErr (tRs2 K CS CP))]) [some (.ref x), some (.ref so), some (.bl both), some (.ref f0), none, none]) v1 := fun e0 e H' s' => outS fun p H3 s3 e3 => k p H3 (t0.trans (s'.trans s3)) (.inr (.inl ⟨e0, e, e3⟩))
    have fin : szV v0 = true → szV v1 = true → (both = true → plV (nV v1) (rs.length : Nat) v2 v3 v4 = true) → ∀ H', Same H1 H' → Q (.ref f0) H' := fun e0 e1 e2 H' s' => k f0 H' (t0.trans s') (.inr (.inr (.inr ⟨e0, e1, e2, s' _ _ ef0⟩)))
    refine ⟨_, rfl, _, rfl, ?_⟩
    cases hb : both with
    | true =>
      subst hb
      refine LK.ifT rfl ?_
      refine ⟨_, rfl, _, rfl, so, _, 0, _, rfl, rfl, hs1, atI_nat (j := 0) rfl, _, rfl, so, _, 1, _, rfl, rfl, hs1, atI_nat (j := 1) rfl, _, rfl, so, _, 2, _, rfl, rfl, hs1, atI_nat (j := 2) rfl, _, rfl, so, _, 3, _, rfl, rfl, hs1, atI_nat (j := 3) rfl, _, rfl, so, _, 4, _, rfl, rfl, hs1, atI_nat (j := 4) rfl, ?_⟩
      cases c : (szV v0 && (szV v1 && plV (nV v1) (rs.length : Nat) v2 v3 v4)) with
      | false =>
        refine .inr ⟨x, v0, v1, v2, v3, v4, size, rs, rfl, is1, ok.rl.2, h0, h1, h2, h3, h4, trivial, c, kS0, kS1, fun e0 e1 q H' s' eq => ?_⟩
        refine outP fun p H3 s3 e3 => k p H3 (t0.trans (s'.trans s3)) (.inr (.inr (.inl ⟨e0, e1, rfl, ?_, q, e3, s3 _ _ eq⟩)))
        rw [e0, e1, Bool.true_and, Bool.true_and] at c
        exact c
      | true =>
        rw [Bool.and_eq_true, Bool.and_eq_true] at c
        obtain ⟨e0, e1, e2⟩ := c
        obtain ⟨m, rfl, m1, m8⟩ := hm e0
        obtain ⟨n, rfl, n1, n8⟩ := hn e1
        have e2' := e2
        unfold plV nV at e2'
        rw [Bool.and_eq_true, Bool.and_eq_true] at e2'
        obtain ⟨p2, p3, p4⟩ := e2'
        obtain ⟨tn, rfl, t1⟩ := isNV_nat p2
        obtain ⟨i, rfl, i1⟩ := isNV_nat p3
        have t1' : (tn : Int) < (n : Int) := t1
        obtain ⟨z, rfl⟩ := isIV_int p4
        exact .inl ⟨x, m, n, tn, i, z, size, rs, rfl, is1, ok, m1, m8, n8, by omega, by omega, fun H' s' => ⟨_, rfl, fin e0 e1 (fun _ => e2) H' s'⟩⟩
    | false =>
      subst hb
      refine LK.ifF rfl ?_
      refine ⟨_, rfl, _, rfl, so, _, 0, _, rfl, rfl, hs1, atI_nat (j := 0) rfl, _, rfl, so, _, 1, _, rfl, rfl, hs1, atI_nat (j := 1) rfl, ?_⟩
      cases c : (szV v0 && szV v1) with
      | false => exact .inr ⟨x, v0, v1, rfl, h0, h1, c, kS0, kS1⟩
      | true =>
        rw [Bool.and_eq_true] at c
        obtain ⟨e0, e1⟩ := c
        obtain ⟨m, rfl, m1, m8⟩ := hm e0
        obtain ⟨n, rfl, n1, n8⟩ := hn e1
        exact .inl ⟨x, m, n, size, rs, rfl, is1, ok, m1, m8, n1, n8, hmn m n rfl rfl m1 n1, fun y H' W hW s' _ => ⟨_, rfl, fin e0 e1 (fun h => (nomatch h)) H' s'⟩⟩
end
end T6
/-! law -/
namespace T6
open PySem PySem.Spec PyProof.Rows L2 LK MXi MXg MY MZ
theorem Pf_bound {rs : List Rw} {b : Nat} (h : ∀ r ∈ rs, drs r.sts ≤ b) (i : Nat) : Pf rs i ≤ b * rs.length := by
  refine Nat.le_trans (Pf_le rs i) ?_
  have e : Pf rs rs.length = (rs.map fun r => drs r.sts).sum := by
    unfold Pf
    rw [List.take_of_length_le (by rw [List.length_map]; exact Nat.le_refl _)]
  rw [e]
  clear e
  induction rs with
  | nil => exact Nat.zero_le _
  | cons r rs ih =>
    rw [List.map_cons, List.sum_cons, List.length_cons, Nat.mul_add, Nat.mul_one]
    have := ih fun r m => h r (List.mem_cons_of_mem _ m)
    have := h r List.mem_cons_self
    omega
/-- a thing, whatever is drawn -/
def ThB (K : PySem.W.Frag) (CH c : Addr) (H : Hp) (v : V) : Prop := ∀ H', Bt c H H' → Thg K CH H' v
theorem ThB.bt {K : PySem.W.Frag} {CH c : Addr} {H H' : Hp} {v : V} (h : ThB K CH c H v) (b : Bt c H H') : ThB K CH c H' v := fun H2 b2 => h H2 (b.trans b2)
theorem thing_sim {K : PySem.W.Frag} {CH : Addr} {H : Hp} {v : V} (h : Thg K CH H v) (n : Nat) : Sim K CH (n + 3) H v v := by
  rcases h with ⟨d, h, o⟩ | ⟨p, size, rs, rfl, h, o⟩ | ⟨l, p, size, rs, rfl, hl, h, o⟩
  · unfold okD at o
    rw [Bool.and_eq_true, Bool.and_eq_true] at o
    obtain ⟨o1, o2, o3⟩ := o
    have := of_decide_eq_true o2
    exact .inl ⟨d, h, h, o1, by omega, by omega, o3⟩
  · exact .inr (.inl ⟨by omega, rfl, p, size, rs, rfl, h, o⟩)
  · refine .inr (.inr ⟨l, l, [.ref p], [.ref p], rfl, rfl, .inl ⟨SqL.of hl, SqL.of hl⟩, rfl, by show 1 ≤ 1000; decide, fun j v w e1 e2 => ?_⟩)
    match j, e1, e2 with
    | 0, e1, e2 =>
      cases e1
      cases e2
      exact .inr (.inl ⟨by omega, rfl, p, size, rs, rfl, h, o⟩)
    | j + 1, e1, _ => exact absurd e1 (by simp)
theorem int_sim {K : PySem.W.Frag} {CH : Addr} {H : Hp} (i : Int) (n : Nat) : Sim K CH (n + 1) H (.int i) (.int i) := .inl ⟨.int i, .int i, .int i, rfl, by show 0 < n + 1; omega, by show 0 ≤ 60; decide, rfl⟩
theorem pair_sim {K : PySem.W.Frag} {CH : Addr} {H : Hp} {p q : Addr} {i : Int} {v w : V} {n : Nat} (e1 : H p = some (.tup [.int i, v])) (e2 : H q = some (.tup [.int i, w])) (h : Sim K CH (n + 1) H v w) : Sim K CH (n + 2) H (.ref p) (.ref q) := by
  refine .inr (.inr ⟨p, q, _, _, rfl, rfl, .inr ⟨SqT.of e1, SqT.of e2⟩, rfl, by show 2 ≤ 1000; decide, fun j a b x y => ?_⟩)
  match j, x, y with
  | 0, x, y =>
    cases x
    cases y
    exact int_sim i n
  | 1, x, y =>
    cases x
    cases y
    exact h
  | j + 2, x, _ => exact absurd x (by simp)
theorem Res.same {H H' : Hp} {p : Addr} {v0 v1 v2 v3 v4 : V} {both : Bool} {len : Int} (h : Res H p v0 v1 v2 v3 v4 both len) (s : Same H H') : Res H' p v0 v1 v2 v3 v4 both len := by
  rcases h with ⟨a, b⟩ | ⟨a, b, d⟩ | ⟨a, b, d, e, q, f, g⟩ | ⟨a, b, d, e⟩
  · exact .inl ⟨a, s _ _ b⟩
  · exact .inr (.inl ⟨a, b, s _ _ d⟩)
  · exact .inr (.inr (.inl ⟨a, b, d, e, q, s _ _ f, s _ _ g⟩))
  · exact .inr (.inr (.inr ⟨a, b, d, s _ _ e⟩))
theorem res_sim {K : PySem.W.Frag} {CH : Addr} {H : Hp} {p q : Addr} {v0 v1 v2 v3 v4 : V} {both : Bool} {len : Int} (h : Res H p v0 v1 v2 v3 v4 both len) (k : Res H q v0 v1 v2 v3 v4 both len) (g0 : Thg K CH H v0) (g1 : Thg K CH H v1) (g2 : Thg K CH H v2) (g3 : Thg K CH H v3) (g4 : Thg K CH H v4) : Sim K CH 6 H (.ref p) (.ref q) := by
  rcases h with ⟨a, b⟩ | ⟨a, b, d⟩ | ⟨a, b, d, e, r, f, g⟩ | ⟨a, b, d, e⟩ <;> rcases k with ⟨a', b'⟩ | ⟨a', b', d'⟩ | ⟨a', b', d', e', r', f', g'⟩ | ⟨a', b', d', e'⟩
  all_goals first
    | exact absurd (a.symm.trans a') (by decide)
    | exact absurd (b.symm.trans b') (by decide)
    | exact absurd (e.symm.trans (d' d)) (by decide)
    | exact absurd (e'.symm.trans (d d')) (by decide)
    | exact pair_sim b b' (thing_sim g0 2)
    | exact pair_sim d d' (thing_sim g1 2)
    | exact pair_sim e e' (.inl ⟨.none, .non, .non, rfl, by show 0 < 5; decide, by show 0 ≤ 60; decide, rfl⟩)
    | skip
  refine pair_sim f f' (.inr (.inr ⟨r, r', _, _, rfl, rfl, .inr ⟨SqT.of g, SqT.of g'⟩, rfl, by show 3 ≤ 1000; decide, fun j a b x y => ?_⟩))
  match j, x, y with
  | 0, x, y =>
    cases x
    cases y
    exact thing_sim g2 1
  | 1, x, y =>
    cases x
    cases y
    exact thing_sim g3 1
  | 2, x, y =>
    cases x
    cases y
    exact thing_sim g4 1
  | j + 3, x, _ => exact absurd x (by simp)
theorem opK {r : R2} {ta tb : TE} {σ : L2.St} {H : Hp} {Q : VK} (R1 : V → Hp → Prop) (h : ∀ Q' : VK, (∀ x H', R1 x H' → Q' x H') → ta σ H Q') (q : ∀ x H', R1 x H' → tb σ H' fun y H2 => r x y H2 Q) : tOp r ta tb σ H Q := h _ q
theorem sqT_bt {K : PySem.W.Frag} {H H' : Hp} {c a : Addr} {B : Nat} {xs : List V} (h : CR H c B) (b : Bt c H H') (s : SqT K H a xs) : SqT K H' a xs := sqT_tl (Tl.bt h b) s
def spLaw (K : PySem.W.Frag) : Sp := fun vs H Q _ => ∃ (a : Addr) (ns : List Int), vs = [.ref a] ∧ SqL K H a (ns.map V.int) ∧ ns.length ≤ 63 ∧ ∀ H', Q (.bl true) H'
section
variable {P : Program} {w : World} {K : PySem.W.Frag} {mg : Str → Option Value} {base : Heap}
abbrev sLaw : Stmt := top 47
theorem scLaw : FnScope ["script", "at", "creel", "plan", "net", "rooms", "repeats", "high", "fine", "turn", "some", "lap", "k", "odd", "put", "both"] ["script"] (defScope sLaw) := ⟨rfl, rfl, rfl, by decide +kernel, rfl, by decide +kernel, by decide +kernel⟩
theorem ok_Law {f : Addr} {fd : FuncData} (F : Fun K "law" "law" sLaw f fd) (B : Bl mg) {CH : Addr} (N : Ch2 P w K mg base CH)
    {f__law_creel : Addr} {d__law_creel : FuncData} (G__law_creel : FnOk P w K mg base CX0 1 f__law_creel d__law_creel ["script", "at"] (spCreel K)) (g__law_creel : mg "_law_creel" = some (.ref f__law_creel)) (k__law_creel : PySem.W.keepIn K (.ref f__law_creel) = true) (b__law_creel : Binds K d__law_creel ["script", "at"] [])
    {f__law_plan : Addr} {d__law_plan : FuncData} (G__law_plan : FnOk P w K mg base CX0 3 f__law_plan d__law_plan ["creel", "most", "rows_most"] (spPln K)) (g__law_plan : mg "_law_plan" = some (.ref f__law_plan)) (k__law_plan : PySem.W.keepIn K (.ref f__law_plan) = true) (b__law_plan : Binds K d__law_plan ["creel", "most", "rows_most"] [])
    {f__law_room : Addr} {d__law_room : FuncData} (G__law_room : FnOk P w K mg base CX0 2 f__law_room d__law_room ["plan", "most"] (spRom K)) (g__law_room : mg "_law_room" = some (.ref f__law_room)) (k__law_room : PySem.W.keepIn K (.ref f__law_room) = true) (b__law_room : Binds K d__law_room ["plan", "most"] [])
    {f__law_ply : Addr} {d__law_ply : FuncData} (G__law_ply : FnOk P w K mg base CX0 1 f__law_ply d__law_ply ["creel", "span"] spPly) (g__law_ply : mg "_law_ply" = some (.ref f__law_ply)) (k__law_ply : PySem.W.keepIn K (.ref f__law_ply) = true) (b__law_ply : Binds K d__law_ply ["creel", "span"] [])
    {f__law_refusal : Addr} {d__law_refusal : FuncData} (G__law_refusal : FnOk P w K mg base CX0 9 f__law_refusal d__law_refusal ["net", "some", "both"] (spRfu K CH)) (g__law_refusal : mg "_law_refusal" = some (.ref f__law_refusal)) (k__law_refusal : PySem.W.keepIn K (.ref f__law_refusal) = true) (b__law_refusal : Binds K d__law_refusal ["net", "some", "both"] [])
    {f__law_due : Addr} {d__law_due : FuncData} (G__law_due : FnOk P w K mg base CX0 2 f__law_due d__law_due ["plan", "some", "both"] (spJue K CH)) (g__law_due : mg "_law_due" = some (.ref f__law_due)) (k__law_due : PySem.W.keepIn K (.ref f__law_due) = true) (b__law_due : Binds K d__law_due ["plan", "some", "both"] [])
    {f__law_matched : Addr} {d__law_matched : FuncData} (G__law_matched : FnOk P w K mg base CX0 6 f__law_matched d__law_matched ["found", "due"] (spS K CH 6)) (g__law_matched : mg "_law_matched" = some (.ref f__law_matched)) (k__law_matched : PySem.W.keepIn K (.ref f__law_matched) = true) (b__law_matched : Binds K d__law_matched ["found", "due"] []) : FnOk P w K mg base CX0 10 f fd ["script"] (spLaw K) := by
  refine F.ok scLaw (fun vs H Q E h => ?_) (fun cdv A outer s H vs Q E hr h => ?_)
  · obtain ⟨a, ns, rfl, _⟩ := h
    rfl
  · obtain ⟨a, ns, rfl, hs, hn, k⟩ := h
    refine ⟨_, pss_cons (ps_for PassesOwn.never rfl (pi_range1 (by rfl) (B "range" (by decide)) (pa_cons (pe_callB (call_max2 rfl) (by rfl) (B "max" (by decide)) (by decide +kernel) (pa_cons pe_int (pa_cons (pe_callB (call_min2 rfl) (by rfl) (B "min" (by decide)) (by decide +kernel) (pa_cons pe_int (pa_cons (pe_callB call_len_seq (by rfl) (B "len" (by decide)) (by decide +kernel) (pa_cons (pv 0) pa_nil)) pa_nil))) pa_nil))) pa_nil)) (pg_name (i := 1) scLaw.nd rfl (Or.inl rfl)) (pss_cons (ps_set (i := 2) scLaw.nd rfl (Or.inl rfl) (pe_call (E := E0) G__law_creel (hr.mono (by decide)) rfl g__law_creel k__law_creel b__law_creel .nil pass0 (pa_cons (pv 0) (pa_cons (pv 1) pa_nil))))
      (pss_cons (ps_set (i := 3) scLaw.nd rfl (Or.inl rfl) (pe_call (E := E0) G__law_plan (hr.mono (by decide)) rfl g__law_plan k__law_plan b__law_plan .nil pass0 (pa_cons (pv 2) (pa_cons pe_int (pa_cons pe_int pa_nil)))))
      (pss_cons (ps_set (i := 4) scLaw.nd rfl (Or.inl rfl) (pe_make N.mC N.oC (hr.mono (by decide)) rfl N.gC N.bC .nil pass0 (pa_cons (pe_ix (ixt (K := K)) (pv 3) pe_int (fun _ _ => rfl)) (pa_cons (pe_ix (ixt (K := K)) (pv 3) pe_int (fun _ _ => rfl)) pa_nil))))
      (pss_cons (ps_set (i := 5) scLaw.nd rfl (Or.inl rfl) (pe_call (E := E0) G__law_room (hr.mono (by decide)) rfl g__law_room k__law_room b__law_room .nil pass0 (pa_cons (pv 3) (pa_cons pe_int pa_nil))))
      (pss_cons (ps_asg (pe_ix ix_list (pv 5) (pe_call (E := E0) G__law_ply (hr.mono (by decide)) rfl g__law_ply k__law_ply b__law_ply .nil pass0 (pa_cons (pv 2) (pa_cons (pe_callB call_len_seq (by rfl) (B "len" (by decide)) (by decide +kernel) (pa_cons (pv 5) pa_nil)) pa_nil))) (fun _ _ => rfl)) (pg_tup rfl (pgs_cons (pg_name (i := 6) scLaw.nd rfl (Or.inl rfl)) (pgs_cons (pg_name (i := 7) scLaw.nd rfl (Or.inl rfl)) pgs_nil))))
      (pss_cons (ps_set (i := 8) scLaw.nd rfl (Or.inl rfl) (pe_tup (pa_cons (pv 6) (pa_cons (pv 7) (pa_cons (pe_call (E := E0) G__law_ply (hr.mono (by decide)) rfl g__law_ply k__law_ply b__law_ply .nil pass0 (pa_cons (pv 2) (pa_cons (pv 7) pa_nil))) (pa_cons (pe_call (E := E0) G__law_ply (hr.mono (by decide)) rfl g__law_ply k__law_ply b__law_ply .nil pass0 (pa_cons (pv 2) (pa_cons (pe_callB call_len_seq (by rfl) (B "len" (by decide)) (by decide +kernel) (pa_cons (pe_ix (ixt (K := K)) (pv 3) pe_int (fun _ _ => rfl)) pa_nil)) pa_nil))) (pa_cons (pe_op op_sub (pe_call (E := E0) G__law_ply (hr.mono (by decide)) rfl g__law_ply k__law_ply b__law_ply .nil pass0 (pa_cons (pv 2) (pa_cons pe_int pa_nil))) pe_int) pa_nil)))))))
      (pss_one (ps_for PassesOwn.never rfl (pi_range1 (by rfl) (B "range" (by decide)) (pa_cons pe_int pa_nil)) (pg_name (i := 9) scLaw.nd rfl (Or.inl rfl)) (pss_cons (ps_set (i := 10) scLaw.nd rfl (Or.inl rfl) (pv 8))
      (pss_cons (ps_for PassesOwn.never rfl (pi_range1 (by rfl) (B "range" (by decide)) (pa_cons (pe_op op_add pe_int (pe_call (E := E0) G__law_ply (hr.mono (by decide)) rfl g__law_ply k__law_ply b__law_ply .nil pass0 (pa_cons (pv 2) (pa_cons pe_int pa_nil)))) pa_nil)) (pg_name (i := 11) scLaw.nd rfl (Or.inl rfl)) (pss_cons (ps_set (i := 12) scLaw.nd rfl (Or.inl rfl) (pe_call (E := E0) G__law_ply (hr.mono (by decide)) rfl g__law_ply k__law_ply b__law_ply .nil pass0 (pa_cons (pv 2) (pa_cons pe_int pa_nil))))
      (pss_cons (ps_set (i := 13) scLaw.nd rfl (Or.inl rfl) (pe_lst (pa_cons pe_int (pa_cons (pe_un un_neg pe_int) (pa_cons pe_bl (pa_cons pe_non (pa_cons pe_str (pa_cons (pe_tup (pa_cons pe_int pa_nil)) (pa_cons (pe_lst (pa_cons (pv 4) pa_nil)) (pa_cons pe_str (pa_cons (pv 7) (pa_cons (pe_callB call_len_seq (by rfl) (B "len" (by decide)) (by decide +kernel) (pa_cons (pe_ix (ixt (K := K)) (pv 3) pe_int (fun _ _ => rfl)) pa_nil)) (pa_cons pe_bl (pa_cons (pe_op op_sub (pe_op op_pow pe_int pe_int) pe_int) pa_nil))))))))))))))
      (pss_cons (ps_set (i := 14) scLaw.nd rfl (Or.inl rfl) (pe_ifExp (pt_cmpR op_eq (pe_call (E := E0) G__law_ply (hr.mono (by decide)) rfl g__law_ply k__law_ply b__law_ply .nil pass0 (pa_cons (pv 2) (pa_cons pe_int pa_nil))) pe_int (nomark _)) (pv 4) (pe_ix ix_list (pv 13) (pe_call (E := E0) G__law_ply (hr.mono (by decide)) rfl g__law_ply k__law_ply b__law_ply .nil pass0 (pa_cons (pv 2) (pa_cons (pe_ifExp (pt_cmpR op_gt (pv 12) pe_int (nomark _)) pe_int pe_int) pa_nil))) (fun _ _ => rfl))))
      (pss_one (ps_set (i := 10) scLaw.nd rfl (Or.inl rfl) (pe_op op_catA (pe_op op_catA (pe_slice sl_tup (pv 10) po_none (po_some (pv 12))) (pe_tup (pa_cons (pv 14) pa_nil))) (pe_slice sl_tup (pv 10) (po_some (pe_op op_add (pv 12) pe_int)) po_none))))))))
      (pss_one (ps_for PassesOwn.never rfl (pi_tup (pe_tup (pa_cons pe_bl (pa_cons pe_bl pa_nil)))) (pg_name (i := 15) scLaw.nd rfl (Or.inl rfl)) (pss_cons (ps_if (pt_not (pt_val (pe_call (E := E0) G__law_matched (hr.mono (by decide)) rfl g__law_matched k__law_matched b__law_matched .nil pass0 (pa_cons (pe_call (E := E0) G__law_refusal (hr.mono (by decide)) rfl g__law_refusal k__law_refusal b__law_refusal .nil pass0 (pa_cons (pv 4) (pa_cons (pv 10) (pa_cons (pv 15) pa_nil)))) (pa_cons (pe_call (E := E0) G__law_due (hr.mono (by decide)) rfl g__law_due k__law_due b__law_due .nil pass0 (pa_cons (pv 3) (pa_cons (pv 10) (pa_cons (pv 15) pa_nil)))) pa_nil))))) (pss_one (ps_ret pe_bl)) pss_nil)
      (pss_one (ps_if (pt_cmpR (op_neD hr.units) (pe_call (E := E0) G__law_refusal (hr.mono (by decide)) rfl g__law_refusal k__law_refusal b__law_refusal .nil pass0 (pa_cons (pv 4) (pa_cons (pv 8) (pa_cons (pv 15) pa_nil)))) (pe_tup (pa_cons pe_int (pa_cons pe_non pa_nil))) (nomark _)) (pss_one (ps_ret pe_bl)) pss_nil))))))))))))))))
      (pss_one (ps_ret pe_bl)), ?_⟩
    have ty2 : sizeLine = 16777216 := sizeLine_eq
    dsimp only [tSeq]
    refine ⟨_, rfl, a, _, rfl, .inl hs, ?_⟩
    rw [List.length_map]
    refine ⟨_, _, rfl, ?_⟩
    refine ⟨_, _, rfl, ?_⟩
    refine ⟨_, rfl, ?_, ?_, ?_⟩
    · (repeat' split) <;> omega
    · (repeat' split) <;> omega
    refine for_range (lo := 0) (n := _) (fun i σ H' => ∃ (y1 y2 y3 y4 y5 y6 y7 y8 y9 y10 y11 y12 y13 y14 y15 : Option V), σ = [some (.ref a), y1, y2, y3, y4, y5, y6, y7, y8, y9, y10, y11, y12, y13, y14, y15] ∧ Same H H')
      ⟨_, _, _, _, _, _, _, _, _, _, _, _, _, _, _, rfl, Same.refl H⟩ (fun i σ H1 hi hI => ?_) (fun σ H1 hI => ?_)
    · obtain ⟨y1, y2, y3, y4, y5, y6, y7, y8, y9, y10, y11, y12, y13, y14, y15, rfl, s1⟩ := hI
      have i4 : i ≤ 1000 := by
        (repeat' split at hi) <;> omega
      dsimp only [gName, List.set, tSeq]
      refine ⟨_, rfl, _, rfl, a, ns, i, by simp, s1.seq hs, i4, fun c H2 nc c2 s2 => ?_⟩
      have nc0 : H c = none := gone s1 nc
      have back : ∀ {Hz : Hp}, Bt c H2 Hz → Same H Hz := fun {Hz} bz b o e => bz _ _ (ne_none e nc0) (s2 _ _ (s1 _ _ e))
      dsimp only [gName, List.set, tSeq]
      refine ⟨_, rfl, c, 5, 3, 1000, rfl, by decide, by decide, by decide, by decide, c2.mono (by omega), by omega, fun t Ld H3 xs size rs c3 b3 pl cc rl1 rl2 nL Lc => ?_⟩
      have ok : OkCh size rs := ⟨pl.rows, fun z m => by have := cc z m; omega, rl1, by omega⟩
      have ne : rs ≠ [] := fun e => by rw [e] at rl1; exact absurd rl1 (by decide)
      have sz1 : 1 ≤ size := (cc size List.mem_cons_self).1
      have few0 : rs.length ≤ 1000 ∧ ∀ r ∈ rs, r.sts.length ≤ 1000 := ⟨by omega, ok.few⟩
      have sz5 : size ≤ 5 := (cc size List.mem_cons_self).2
      have T15 : Pf rs rs.length ≤ 15 := by
        have := Pf_bound (rs := rs) (b := 5) (fun r m => by
          obtain ⟨i, hi⟩ := List.getElem?_of_mem m
          obtain ⟨a, c1, c2, okr⟩ := rows_at ok.rows hi
          exact (cc _ (List.mem_of_getElem? c2)).2) rs.length
        have : 5 * rs.length ≤ 5 * 3 := Nat.mul_le_mul_left 5 rl2
        omega
      dsimp only [gName, List.set, tSeq]
      refine ⟨_, rfl, t, _, 0, _, rfl, rfl, SqT.of pl.et, atI_nat (j := 0) rfl, _, rfl, t, _, 1, _, rfl, rfl, SqT.of pl.et, atI_nat (j := 1) rfl, ?_⟩
      intro x dx nx ndx nex
      refine chart_new (SqL.of pl.eL) pl.dL pl.rows ne few0 sz1 nx ndx fun H4 s4 _ isx => ⟨rfl, ?_⟩
      have isb := isx c _ c3
      have c4 := c3.same s4
      have b4 := b3.trans (Bt.of (c := c) s4)
      have pl4 := pl.same s4
      have isb4 : ∀ H', Bt c H4 H' → IsH K CH H' x size rs := isb
      clear isb isx nx ndx nex
      dsimp only [gName, List.set, tSeq]
      refine ⟨_, rfl, t, Ld, xs, 120, size, rs, rfl, pl4, few0, fun R1 H5 zs qs nR s5 eR dR neq ql qk => ?_⟩
      have Rc := cr_ne c4 nR
      have c5 := c4.same s5
      have b5 := b4.trans (Bt.of (c := c) s5)
      have pl5 := pl4.same s5
      dsimp only [gName, List.set, tSeq]
      have zl := dps_len dR
      rw [List.length_map] at zl
      have ql1 : 0 < qs.length := List.length_pos_iff.mpr neq
      refine ⟨_, rfl, _, rfl, _, rfl, R1, _, rfl, .inl (SqL.of eR), ?_⟩
      rw [zl]
      refine ⟨c, qs.length, _, rfl, by omega, by omega, c5, by omega, fun d H6 d0 d1 c6 b6 _ => ?_⟩
      obtain ⟨dn, rfl⟩ := Int.eq_ofNat_of_zero_le d0
      obtain ⟨q, hq⟩ : ∃ q, qs[dn]? = some q := ⟨_, List.getElem?_eq_getElem (by omega)⟩
      obtain ⟨v, hv⟩ : ∃ v, zs[dn]? = some v := ⟨_, List.getElem?_eq_getElem (by omega)⟩
      have dR6 := dps_tl (Tl.bt c5 b6) (noLs_prs _) dR
      obtain ⟨w, rfl, hw⟩ := pr_tup (dps_get dR6 hv (by rw [List.getElem?_map, hq]; rfl))
      obtain ⟨m, n⟩ := q
      obtain ⟨m1, m6, n1, n8, most⟩ := qk _ (List.mem_of_getElem? hq)
      dsimp only at m1 m6 n1 n8 most hw
      have most : m * (size + n * Pf rs rs.length) ≤ 1000 := by
        rcases most with h | h
        · omega
        · cases h
          omega
      refine ⟨R1, _, _, _, rfl, rfl, SqL.of (b6 _ _ Rc eR), atI_nat hv, ?_⟩
      refine ⟨w, _, rfl, hw, rfl, ?_⟩
      refine ⟨_, _, rfl, _, _, rfl, rfl, ?_⟩
      dsimp only [gName, gCons, gNil, List.set, tSeq]
      have pl6 := pl5.bt c5 Lc b6
      have xl := dps_len pl6.dL
      rw [List.length_map] at xl
      refine ⟨_, rfl, _, rfl, _, rfl, _, rfl, c, n, _, rfl, by omega, by omega, c6, by omega, fun tz H7 t0 t1 c7 b7 _ => ?_⟩
      obtain ⟨tn, rfl⟩ := Int.eq_ofNat_of_zero_le t0
      have pl7 := pl6.bt c6 Lc b7
      refine ⟨_, rfl, _, rfl, t, _, 1, _, rfl, rfl, SqT.of pl7.et, atI_nat (j := 1) rfl, Ld, _, rfl, .inl (SqL.of pl7.eL), ?_⟩
      rw [xl]
      refine ⟨c, rs.length, _, rfl, by omega, by omega, c7, by omega, fun iz H8 i0 i1 c8 b8 _ => ?_⟩
      obtain ⟨im, rfl⟩ := Int.eq_ofNat_of_zero_le i0
      refine ⟨_, rfl, c, 99, _, rfl, by decide, by decide, c8, by omega, fun z H9 z0 z1 c9 b9 _ => ⟨_, _, rfl, rfl, ?_⟩⟩
      refine ⟨by show 5 ≤ sizeLine; decide, fun fa nfa => ?_⟩
      change gName 8 (V.ref fa) _ (upd H9 fa (.tup [.int (m : Int), .int (n : Int), .int (tn : Int), .int (im : Int), .int (z - 50)])) _
      have tfa := same_new (o := .tup [.int (m : Int), .int (n : Int), .int (tn : Int), .int (im : Int), .int (z - 50)]) nfa
      have efa := upd_same (H := H9) (a := fa) (o := .tup [.int (m : Int), .int (n : Int), .int (tn : Int), .int (im : Int), .int (z - 50)])
      have c10 := c9.same tfa
      have b410 := (((Bt.of (c := c) s5).trans b6).trans (b7.trans b8)).trans (b9.trans (Bt.of (c := c) tfa))
      have b10 := b4.trans b410
      have pl10 := (pl7.bt c7 Lc (b8.trans b9)).same tfa
      generalize upd H9 fa (.tup [.int (m : Int), .int (n : Int), .int (tn : Int), .int (im : Int), .int (z - 50)]) = H10 at tfa efa c10 b10 pl10 b410
      have isb10 : ∀ H', Bt c H10 H' → IsH K CH H' x size rs := fun H' b => isb4 H' (b410.trans b)
      clear c9 b9 c8 b8 c7 b7 c6 b6 pl7 pl6 pl5 b5 c5 pl4 b4 c4 pl c3 b3 isb4 nfa tfa b410 hw dR6 dR eR Rc hv hq qk neq ql ql1 zl s4 s5
      dsimp only [gName, List.set, tSeq]
      have fineT : ∀ {Hz : Hp}, Bt c H10 Hz → Hz fa = some (.tup [.int (m : Int), .int (n : Int), .int (tn : Int), .int (im : Int), .int (z - 50)]) := fun {Hz} bz => Tl.bt c10 bz _ _ (fun _ e => by cases e) efa
      have thI : ∀ (i : Int) {Hz : Hp}, Thg K CH Hz (.int i) := fun i {Hz} => .inl ⟨_, .int i, rfl⟩
      let SomeB : Addr → Hp → Prop := fun so Hn => ∃ v0 v1 v2 v3 v4 : V, SqT K Hn so [v0, v1, v2, v3, v4] ∧ ThB K CH c Hn v0 ∧ ThB K CH c Hn v1 ∧ ThB K CH c Hn v2 ∧ ThB K CH c Hn v3 ∧ ThB K CH c Hn v4 ∧ (szV v0 = true → v0 = .int (m : Int)) ∧ (szV v1 = true → v1 = .int (n : Int))
      refine ⟨8, rfl, by decide, by decide, ?_⟩
      refine for_range (lo := 0) (n := 8) (fun j σ Hn => ∃ (y9 y10 y11 y12 y13 y14 y15 : Option V), σ = [some (.ref a), some (.int (0 + (i : Int))), some (.ref c), some (.ref t), some (.ref x), some (.ref R1), some (.int (m : Int)), some (.int (n : Int)), some (.ref fa), y9, y10, y11, y12, y13, y14, y15] ∧ Bt c H10 Hn ∧ CR Hn c (50000 + 100 * j))
        ⟨_, _, _, _, _, _, _, rfl, Bt.refl _ _, c10.mono (by omega)⟩ (fun j σ Hn hj hI => ?_) (fun σ Hn hI => ?_)
      · obtain ⟨y9, y10, y11, y12, y13, y14, y15, rfl, bn, cn⟩ := hI
        dsimp only [gName, List.set, tSeq]
        refine ⟨_, rfl, ?_⟩
        dsimp only [gName, List.set, tSeq]
        refine stR (fun σ Hm => ∃ (so : Addr) (y11 y12 y13 y14 y15 : Option V), σ = [some (.ref a), some (.int (0 + (i : Int))), some (.ref c), some (.ref t), some (.ref x), some (.ref R1), some (.int (m : Int)), some (.int (n : Int)), some (.ref fa), some (.int (0 + (j : Int))), some (.ref so), y11, y12, y13, y14, y15] ∧ Bt c H10 Hm ∧ CR Hm c (50000 + 100 * j + 50) ∧ SomeB so Hm) (fun D' ret aft => ?_) ?_
        · refine ⟨_, rfl, c, 2, _, rfl, by decide, by decide, cn, by omega, fun l H11 l0 l1 c11 b11 _ => ⟨_, _, rfl, rfl, ?_⟩⟩
          obtain ⟨ln, rfl⟩ := Int.eq_ofNat_of_zero_le l0
          refine ⟨_, rfl, by omega, by omega, ?_⟩
          rw [show (1 + (ln : Int)).toNat = 1 + ln by omega]
          refine for_range (lo := 0) (n := 1 + ln) (fun e σ Hm => ∃ (so : Addr) (y11 y12 y13 y14 y15 : Option V), σ = [some (.ref a), some (.int (0 + (i : Int))), some (.ref c), some (.ref t), some (.ref x), some (.ref R1), some (.int (m : Int)), some (.int (n : Int)), some (.ref fa), some (.int (0 + (j : Int))), some (.ref so), y11, y12, y13, y14, y15] ∧ Bt c H10 Hm ∧ CR Hm c (50000 + 100 * j + 1 + 10 * e) ∧ SomeB so Hm)
            ⟨fa, _, _, _, _, _, rfl, bn.trans b11, c11, _, _, _, _, _, SqT.of (fineT (bn.trans b11)), fun Hz _ => thI _, fun Hz _ => thI _, fun Hz _ => thI _, fun Hz _ => thI _, fun Hz _ => thI _, fun _ => rfl, fun _ => rfl⟩ (fun e σ Hm he hI => ?_) (fun σ Hm hI => ?_)
          · obtain ⟨so, y11, y12, y13, y14, y15, rfl, bm, cm, v0, v1, v2, v3, v4, hso, g0, g1, g2, g3, g4, hm0, hn0⟩ := hI
            dsimp only [gName, List.set, tSeq]
            have plm := pl10.bt c10 Lc bm
            refine ⟨_, rfl, c, 5, _, rfl, by decide, by decide, cm, by omega, fun kz H12 k0 k1 c12 b12 _ => ?_⟩
            obtain ⟨kn, rfl⟩ := Int.eq_ofNat_of_zero_le k0
            have kn5 : kn < 5 := by omega
            dsimp only [gName, List.set, tSeq]
            have pl12 := plm.bt cm Lc b12
            refine ⟨_, rfl, by show 1 ≤ sizeLine; decide, fun u nu => ?_⟩
            have tu := same_new (o := .tup [.int 1]) nu
            have eu := upd_same (H := H12) (a := u) (o := .tup [.int 1])
            generalize upd H12 u (.tup [.int 1]) = H13 at tu eu
            refine ⟨_, rfl, by show 1 ≤ sizeLine; decide, fun ll nll => ?_⟩
            have c13 := c12.same tu
            have llc := cr_ne c13 nll
            have tl := same_new (o := .lst [.ref x]) nll
            have ell := upd_same (H := H13) (a := ll) (o := .lst [.ref x])
            have eu14 := tl _ _ eu
            have s14 := tu.trans tl
            generalize upd H13 ll (.lst [.ref x]) = H14 at tl ell eu14 s14
            have pl14 := pl12.same s14
            refine ⟨_, rfl, _, rfl, t, _, 1, _, rfl, rfl, SqT.of pl14.et, atI_nat (j := 1) rfl, Ld, _, rfl, .inl (SqL.of pl14.eL), ?_⟩
            rw [xl]
            refine ⟨_, _, rfl, rfl, ⟨by decide, by decide, by decide⟩, _, _, rfl, rfl, ?_⟩
            refine ⟨by show 12 ≤ sizeLine; decide, fun od nod => ?_⟩
            change gName 13 (V.ref od) _ (upd H14 od (.lst [.int 0, .int (-1), .bl true, .non, .str "1", .ref u, .ref ll, .str "", .int (n : Int), .int ((rs.length : Nat) : Int), .bl false, .int (10 ^ 30 - 1)])) _
            have tod := same_new (o := .lst [.int 0, .int (-1), .bl true, .non, .str "1", .ref u, .ref ll, .str "", .int (n : Int), .int ((rs.length : Nat) : Int), .bl false, .int (10 ^ 30 - 1)]) nod
            have eod := upd_same (H := H14) (a := od) (o := .lst [.int 0, .int (-1), .bl true, .non, .str "1", .ref u, .ref ll, .str "", .int (n : Int), .int ((rs.length : Nat) : Int), .bl false, .int (10 ^ 30 - 1)])
            have c14 := c12.same s14
            have odc := cr_ne c14 nod
            have c15 := c14.same tod
            have bm15 := b12.trans (Bt.of (c := c) (s14.trans tod))
            have eu15 := tod _ _ eu14
            have ell15 := tod _ _ ell
            generalize upd H14 od (.lst [.int 0, .int (-1), .bl true, .non, .str "1", .ref u, .ref ll, .str "", .int (n : Int), .int ((rs.length : Nat) : Int), .bl false, .int (10 ^ 30 - 1)]) = H15 at tod eod c15 bm15 eu15 ell15
            have b15 := bm.trans bm15
            have netB : ThB K CH c H15 (.ref x) := fun Hz bz => .inr (.inl ⟨x, size, rs, rfl, isb10 _ (b15.trans bz), ok⟩)
            have oddB : ∀ dn : Nat, dn < 12 → ∃ v, [V.int 0, .int (-1), .bl true, .non, .str "1", .ref u, .ref ll, .str "", .int (n : Int), .int ((rs.length : Nat) : Int), .bl false, .int (10 ^ 30 - 1)][dn]? = some v ∧ ThB K CH c H15 v ∧ (dn < 8 → szV v = false) := fun dn h => by
              match dn, h with
              | 0, _ => exact ⟨_, rfl, fun Hz _ => thI _, fun _ => rfl⟩
              | 1, _ => exact ⟨_, rfl, fun Hz _ => thI _, fun _ => rfl⟩
              | 2, _ => exact ⟨_, rfl, fun Hz _ => .inl ⟨_, .bl _, rfl⟩, fun _ => rfl⟩
              | 3, _ => exact ⟨_, rfl, fun Hz _ => .inl ⟨_, .non, rfl⟩, fun _ => rfl⟩
              | 4, _ => exact ⟨_, rfl, fun Hz _ => .inl ⟨_, .str _, by decide +kernel⟩, fun _ => rfl⟩
              | 5, _ => exact ⟨_, rfl, fun Hz bz => .inl ⟨.tuple [.int 1], .tup (SqT.of (Tl.bt c15 bz _ _ (fun _ e => by cases e) eu15)) (.cons (.int _) .nil), rfl⟩, fun _ => rfl⟩
              | 6, _ => exact ⟨_, rfl, fun Hz bz => .inr (.inr ⟨ll, x, size, rs, rfl, bz _ _ llc ell15, isb10 _ (b15.trans bz), ok⟩), fun _ => rfl⟩
              | 7, _ => exact ⟨_, rfl, fun Hz _ => .inl ⟨_, .str _, by decide +kernel⟩, fun _ => rfl⟩
              | 8, _ => exact ⟨_, rfl, fun Hz _ => thI _, fun h => absurd h (by decide)⟩
              | 9, _ => exact ⟨_, rfl, fun Hz _ => thI _, fun h => absurd h (by decide)⟩
              | 10, _ => exact ⟨_, rfl, fun Hz _ => .inl ⟨_, .bl _, rfl⟩, fun h => absurd h (by decide)⟩
              | 11, _ => exact ⟨_, rfl, fun Hz _ => thI _, fun h => absurd h (by decide)⟩
              | dn + 12, h => exact absurd h (by omega)
            dsimp only [gName, List.set, tSeq, tAsg]
            refine exK (fun v Hq => ThB K CH c Hq v ∧ (kn ≤ 1 → szV v = false) ∧ Bt c H15 Hq ∧ CR Hq c (50000 + 100 * j + 1 + 10 * e + 4)) (fun Q' aft2 => ?_) ?_
            · refine ⟨_, rfl, c, 13, _, rfl, by decide, by decide, c15, by omega, fun dz H16 d0 d1 c16 b16 _ => ⟨rfl, _, rfl, ?_⟩⟩
              by_cases hd : dz = 0
              · refine LK.ifT (by rw [dec_int, hd]; rfl) ⟨_, rfl, aft2 _ _ ⟨netB.bt b16, fun _ => rfl, b16, c16.mono (by omega)⟩⟩
              · refine LK.ifF (by rw [dec_int]; exact beq_eq_false_iff_ne.mpr hd) ?_
                have fin : ∀ (dn : Nat) {H17 : Hp}, dn < 12 → (kn ≤ 1 → dn < 8) → Bt c H16 H17 → CR H17 c (50000 + 100 * j + 1 + 10 * e + 1 + 1 + 1) → rIxL K (.ref od) (.int (dn : Int)) H17 Q' := fun dn {H17} h12 h8 b17 c17 => by
                  obtain ⟨v, hz, gv, sv⟩ := oddB dn h12
                  exact ⟨od, _, _, _, rfl, rfl, SqL.of (b17 _ _ odc (b16 _ _ odc eod)), atI_nat hz, aft2 _ _ ⟨gv.bt (b16.trans b17), fun h => sv (h8 h), b16.trans b17, c17.mono (by omega)⟩⟩
                refine ⟨_, rfl, _, rfl, _, rfl, _, _, rfl, rfl, _, rfl, ?_⟩
                by_cases k1 : 1 < kn
                · refine LK.ifT (decide_eq_true (by omega)) ⟨c, 12, _, rfl, by decide, by decide, c16, by omega, fun dz H17 d0 d1 c17 b17 _ => ?_⟩
                  obtain ⟨dn, rfl⟩ := Int.eq_ofNat_of_zero_le d0
                  exact fin dn (by omega) (fun h => absurd k1 (by omega)) b17 c17
                · refine LK.ifF (decide_eq_false (by omega)) ⟨c, 8, _, rfl, by decide, by decide, c16, by omega, fun dz H17 d0 d1 c17 b17 _ => ?_⟩
                  obtain ⟨dn, rfl⟩ := Int.eq_ofNat_of_zero_le d0
                  exact fin dn (by omega) (fun _ => by omega) b17 c17
            rintro v Hq ⟨gv, sv, bq, cq⟩
            have bmq := bm15.trans bq
            have hsoq := sqT_bt cm bmq hso
            refine exK (fun y Hr => ∃ so', y = .ref so' ∧ SqT K Hr so' ([v0, v1, v2, v3, v4].set kn v) ∧ Same Hq Hr) (fun Q' aft2 => ?_) ?_
            · refine opK (fun y Hr => ∃ so1, y = .ref so1 ∧ SqT K Hr so1 ([v0, v1, v2, v3, v4].take kn ++ [v]) ∧ Same Hq Hr) (fun Q'' aft3 => ?_) ?_
              · refine ⟨_, rfl, _, rfl, _, rfl, so, _, rfl, hsoq, fun h => ?_, fun p1 np1 => ?_⟩
                · have h2 := h.2
                  rw [HT.sIx_nat] at h2
                  change min kn 5 = 5 at h2
                  omega
                rw [cut_take (by show kn ≤ 5; omega)]
                have t1' := same_new (o := .tup ([v0, v1, v2, v3, v4].take kn)) np1
                have e1' := upd_same (H := Hq) (a := p1) (o := .tup ([v0, v1, v2, v3, v4].take kn))
                generalize upd Hq p1 (.tup ([v0, v1, v2, v3, v4].take kn)) = Hr at t1' e1'
                refine ⟨_, rfl, by show 1 ≤ sizeLine; decide, fun p2 np2 => ?_⟩
                have t2' := same_new (o := .tup [v]) np2
                have e2' := upd_same (H := Hr) (a := p2) (o := .tup [v])
                have e1'' := t2' _ _ e1'
                generalize upd Hr p2 (.tup [v]) = Hs at t2' e2' e1''
                refine ⟨p1, p2, _, _, rfl, rfl, SqT.of e1'', SqT.of e2', by rw [List.length_take]; show min kn 5 + 1 ≤ sizeLine; omega, fun h0 => aft3 _ _ ⟨p2, rfl, ?_, t1'.trans t2'⟩, fun _ h1 => absurd h1 (by simp), fun h0 h1 p3 np3 => aft3 _ _ ⟨p3, rfl, SqT.of upd_same, (t1'.trans t2').trans (same_new np3)⟩⟩
                rw [h0]
                exact SqT.of e2'
              · rintro y Hr ⟨so1, rfl, hs1, sr⟩
                refine ⟨_, rfl, _, rfl, _, _, rfl, rfl, _, rfl, so, _, rfl, same_tup sr hsoq, fun h => ?_, fun p4 np4 => ?_⟩
                · have h1 := h.1
                  rw [show ((kn : Int) + 1) = ((kn + 1 : Nat) : Int) by omega, HT.sIx_nat] at h1
                  change min (kn + 1) 5 = 0 at h1
                  omega
                rw [show ((kn : Int) + 1) = ((kn + 1 : Nat) : Int) by omega, cut_drop]
                have t4' := same_new (o := .tup ([v0, v1, v2, v3, v4].drop (kn + 1))) np4
                have e4' := upd_same (H := Hr) (a := p4) (o := .tup ([v0, v1, v2, v3, v4].drop (kn + 1)))
                generalize upd Hr p4 (.tup ([v0, v1, v2, v3, v4].drop (kn + 1))) = Hs at t4' e4'
                have whole : [v0, v1, v2, v3, v4].set kn v = ([v0, v1, v2, v3, v4].take kn ++ [v]) ++ [v0, v1, v2, v3, v4].drop (kn + 1) := by
                  rw [List.set_eq_take_append_cons_drop, if_pos (by show kn < 5; omega), List.append_assoc]
                  rfl
                have hs1' := same_tup t4' hs1
                refine ⟨so1, p4, _, _, rfl, rfl, hs1', SqT.of e4', by rw [List.length_append, List.length_take, List.length_drop]; show min kn 5 + 1 + (5 - (kn + 1)) ≤ sizeLine; omega, fun h0 => absurd h0 (by simp), fun _ h1 => aft2 _ _ ⟨so1, rfl, ?_, sr.trans t4'⟩, fun _ h1 p5 np5 => aft2 _ _ ⟨p5, rfl, ?_, sr.trans (t4'.trans (same_new np5))⟩⟩
                · rw [whole, h1, List.append_nil]
                  exact hs1'
                · rw [whole]
                  exact SqT.of upd_same
            rintro y Hr ⟨so', rfl, hs', sr⟩
            have bmr := bmq.trans (Bt.of (c := c) sr)
            have brq := Bt.of (c := c) sr
            refine ⟨so', _, _, _, _, _, rfl, bm.trans bmr, (cq.same sr).mono (by omega), ?_⟩
            match kn, kn5, sv, hs' with
            | 0, _, sv, hs' => exact ⟨v, v1, v2, v3, v4, hs', gv.bt brq, g1.bt bmr, g2.bt bmr, g3.bt bmr, g4.bt bmr, fun h => absurd h (by rw [sv (by decide)]; decide), hn0⟩
            | 1, _, sv, hs' => exact ⟨v0, v, v2, v3, v4, hs', g0.bt bmr, gv.bt brq, g2.bt bmr, g3.bt bmr, g4.bt bmr, hm0, fun h => absurd h (by rw [sv (by decide)]; decide)⟩
            | 2, _, sv, hs' => exact ⟨v0, v1, v, v3, v4, hs', g0.bt bmr, g1.bt bmr, gv.bt brq, g3.bt bmr, g4.bt bmr, hm0, hn0⟩
            | 3, _, sv, hs' => exact ⟨v0, v1, v2, v, v4, hs', g0.bt bmr, g1.bt bmr, g2.bt bmr, gv.bt brq, g4.bt bmr, hm0, hn0⟩
            | 4, _, sv, hs' => exact ⟨v0, v1, v2, v3, v, hs', g0.bt bmr, g1.bt bmr, g2.bt bmr, g3.bt bmr, gv.bt brq, hm0, hn0⟩
            | kn + 5, h, _, _ => exact absurd h (by omega)
          · obtain ⟨so, y11, y12, y13, y14, y15, rfl, bm, cm, sb⟩ := hI
            exact aft _ _ ⟨so, _, _, _, _, _, rfl, bm, cm.mono (by omega), sb⟩
        rintro σ Hm ⟨so, y11, y12, y13, y14, y15, rfl, bm, cm, v0, v1, v2, v3, v4, hso, g0, g1, g2, g3, g4, hm0, hn0⟩
        dsimp only [tSeq]
        have plm := pl10.bt c10 Lc bm
        have ism := isb10 _ bm
        have hfa := fineT bm
        refine ⟨by show 2 ≤ sizeLine; decide, fun bt nbt => ?_⟩
        have tbt := same_new (o := .tup [.bl true, .bl false]) nbt
        have ebt := upd_same (H := Hm) (a := bt) (o := .tup [.bl true, .bl false])
        have g0' := g0 _ (Bt.of (c := c) tbt)
        have g1' := g1 _ (Bt.of (c := c) tbt)
        have g2' := g2 _ (Bt.of (c := c) tbt)
        have g3' := g3 _ (Bt.of (c := c) tbt)
        have g4' := g4 _ (Bt.of (c := c) tbt)
        have hso' := same_tup tbt hso
        have plm' := plm.same tbt
        have ism' := ism.same tbt
        have hfa' := tbt _ _ hfa
        have bm' := bm.trans (Bt.of (c := c) tbt)
        have cm' := cm.same tbt
        generalize upd Hm bt (.tup [.bl true, .bl false]) = Hb at ebt g0' g1' g2' g3' g4' hso' plm' ism' hfa' bm' cm'
        clear tbt nbt g0 g1 g2 g3 g4 hso plm ism hfa bm cm
        have pm : szV (.int (m : Int)) = true := decide_eq_true (by omega)
        have pn : szV (.int (n : Int)) = true := decide_eq_true (by omega)
        have pp : plV (nV (.int (n : Int))) ((rs.length : Nat) : Int) (.int (tn : Int)) (.int (im : Int)) (.int (z - 50)) = true := by
          show (decide (0 ≤ (tn : Int) ∧ (tn : Int) < (n : Int)) && (decide (0 ≤ (im : Int) ∧ (im : Int) < ((rs.length : Nat) : Int)) && true)) = true
          rw [decide_eq_true (by omega), decide_eq_true (by omega)]
          rfl
        refine ⟨bt, rfl, ⟨_, SqT.of ebt⟩, ?_⟩
        refine for_tup (K := K) (a := bt) (xs := [.bl true, .bl false]) (fun q σ Hn => ∃ (y11 y12 y13 y14 y15 : Option V), σ = [some (.ref a), some (.int (0 + (i : Int))), some (.ref c), some (.ref t), some (.ref x), some (.ref R1), some (.int (m : Int)), some (.int (n : Int)), some (.ref fa), some (.int (0 + (j : Int))), some (.ref so), y11, y12, y13, y14, y15] ∧ Same Hb Hn)
          ⟨_, _, _, _, _, rfl, Same.refl _⟩ (fun q σ Hn hq hI => by obtain ⟨_, _, _, _, _, _, s⟩ := hI; exact SqT.of (s _ _ ebt)) (fun q v σ Hn hv hI => ?_) (fun σ Hn hI => ?_)
        · obtain ⟨y11, y12, y13, y14, y15, rfl, sb⟩ := hI
          obtain ⟨both, rfl⟩ : ∃ both, v = .bl both := by
            match q, hv with
            | 0, hv => exact ⟨true, (Option.some.inj hv).symm⟩
            | 1, hv => exact ⟨false, (Option.some.inj hv).symm⟩
            | q + 2, hv => exact absurd hv (by simp)
          dsimp only [gName, List.set, tSeq]
          refine ⟨_, rfl, _, rfl, _, rfl, x, so, size, rs, v0, v1, v2, v3, v4, both, rfl, ism'.same sb, ok, same_tup sb hso', g0'.same sb, g1'.same sb, g2'.same sb, g3'.same sb, g4'.same sb, fun h => ⟨m, hm0 h, m1, by omega⟩, fun h => ⟨n, hn0 h, n1, n8⟩, fun m' n' e1 e2 q1 q2 => ?_, fun p1 K1 r1 res1 => ?_⟩
          · have f1 := hm0 (by rw [e1]; exact decide_eq_true (by omega))
            have f2 := hn0 (by rw [e2]; exact decide_eq_true (by omega))
            rw [e1] at f1
            rw [e2] at f2
            have f1' : m' = m := by have := V.int.inj f1; omega
            have f2' : n' = n := by have := V.int.inj f2; omega
            rw [f1', f2']
            exact most
          have sb1 := sb.trans r1
          refine ⟨_, rfl, _, rfl, _, rfl, t, Ld, so, xs, size, rs, v0, v1, v2, v3, v4, both, rfl, plm'.same sb1, by omega, same_tup sb1 hso', g0'.same sb1, g1'.same sb1, g2'.same sb1, g3'.same sb1, g4'.same sb1, fun p2 K2 r2 res2 => ?_⟩
          have sb2 := sb1.trans r2
          refine ⟨.ref p1, .ref p2, rfl, res_sim (res1.same r2) res2 (g0'.same sb2) (g1'.same sb2) (g2'.same sb2) (g3'.same sb2) (g4'.same sb2), fun K3 r3 => ⟨_, rfl, LK.ifF rfl ?_⟩⟩
          have sb3 := sb2.trans r3
          dsimp only [tNext, tSeq]
          refine ⟨_, rfl, _, rfl, _, rfl, x, fa, size, rs, _, _, _, _, _, both, rfl, ism'.same sb3, ok, SqT.of (sb3 _ _ hfa'), thI _, thI _, thI _, thI _, thI _, fun h => ⟨m, rfl, m1, by omega⟩, fun h => ⟨n, rfl, n1, n8⟩, fun m' n' e1 e2 q1 q2 => ?_, fun p3 K4 r4 res3 => ?_⟩
          · have f1' : m' = m := by have := V.int.inj e1; omega
            have f2' : n' = n := by have := V.int.inj e2; omega
            rw [f1', f2']
            exact most
          have e3 : K4 p3 = some (.tup [.int 0, .non]) := by
            rcases res3 with ⟨q, _⟩ | ⟨_, q, _⟩ | ⟨_, _, _, q, _⟩ | ⟨_, _, _, q⟩
            · exact absurd (pm.symm.trans q) (by decide)
            · exact absurd (pn.symm.trans q) (by decide)
            · exact absurd (pp.symm.trans q) (by decide)
            · exact q
          refine ⟨by show 2 ≤ sizeLine; decide, fun p4 np4 => ?_⟩
          have t4 := same_new (o := .tup [.int 0, .non]) np4
          refine ⟨.tuple [.int 0, .none], .tuple [.int 0, .none], .tup (SqT.of (t4 _ _ e3)) (.cons (.int _) (.cons .non .nil)), .tup (SqT.of upd_same) (.cons (.int _) (.cons .non .nil)), by decide +kernel, by decide +kernel, _, rfl, LK.ifF (by decide +kernel) ?_⟩
          exact ⟨_, _, _, _, _, rfl, sb3.trans (r4.trans t4)⟩
        · obtain ⟨y11, y12, y13, y14, y15, rfl, sb⟩ := hI
          exact ⟨_, _, _, _, _, _, _, rfl, bm'.trans (Bt.of (c := c) sb), (cm'.same sb).mono (by omega)⟩
      · obtain ⟨y9, y10, y11, y12, y13, y14, y15, rfl, bn, cn⟩ := hI
        exact ⟨_, _, _, _, _, _, _, _, _, _, _, _, _, _, _, rfl, back (b10.trans bn)⟩
    · obtain ⟨y1, y2, y3, y4, y5, y6, y7, y8, y9, y10, y11, y12, y13, y14, y15, rfl, s1⟩ := hI
      exact k _
end
end T6
namespace T6
open PySem PySem.Spec PyProof.Rows L2 L2H LK MXb MXd MXe MXf MXg MXi MXp MXq MY MZ
/-- the facts of an error class that are reckoned at once -/
def chkE (K : PySem.W.Frag) (fI C : Addr) : Bool :=
  decide (PySem.W.findIn K (.ref C) "__setattr__" = some (some (.builtin "object.__setattr__"))) && (decide (PySem.W.subIn K (.ref C) (.type "BaseException") = some true) && (decide (PySem.W.typeIn K (.ref C) = some (.type "type")) &&
  (PySem.W.keepIn K (.ref C) && (decide (PySem.W.findIn K (.ref C) "__init__" = some (some (.ref fI))) && (decide (PySem.W.typeIn K (.ref fI) = some (.type "function")) && (decide (PySem.W.findIn K (.ref C) "value" = some none) &&
  (decide (PySem.W.findIn K (.ref C) "__getattribute__" = some (some (.builtin "BaseException.__getattribute__"))) && (decide (PySem.W.findIn K (.ref C) "__getattr__" = some none) && (PySem.W.hasDictIn K C &&
  (decide (PySem.W.findIn K (.ref C) "__class__" = some (some (.builtin "object.__class__"))) && (decide (PySem.W.specialIn K (.builtin "object.__class__") "__get__" = some (some (.builtin "getset_descriptor.__get__"))) &&
  (decide (PySem.W.takesIn K (.builtin "object.__class__") = some true) && decide (PySem.W.mroIn K C (.type "object") = some true)))))))))))))
/-- the class object of an error -/
def ClsE (K : PySem.W.Frag) (C : Addr) : Prop := ∃ nm q N bs bm sn sub ab col dd k0 k1 k2 k3 k5, K.lookup C = some (excClassObj nm q C N bs bm true sn sub ab col dd k0 k1 k2 k3 k5 "ValueError.__new__") ∧ PySem.HandSPX.refsVE bm = true
theorem clse_mk {K : PySem.W.Frag} {C : Addr} {nm q : Str} {N : Addr} {bs bm : List Value} {sn : List Str} {sub : List Value} {ab : Bool} {col : Option Bool} {dd : Option Addr} {k0 k1 k2 k3 k5 : Option Value}
    (e : K.lookup C = some (excClassObj nm q C N bs bm true sn sub ab col dd k0 k1 k2 k3 k5 "ValueError.__new__")) (r : PySem.HandSPX.refsVE bm = true) : ClsE K C := ⟨_, _, _, _, _, _, _, _, _, _, _, _, _, _, _, e, r⟩
theorem xce_of {K : PySem.W.Frag} {mg : Str → Option Value} {fI C : Addr} {nm : Str} (g : mg nm = some (.ref C)) (x : ClsE K C) (c : chkE K fI C = true) : XC K mg fI C nm "value" := by
  unfold chkE at c
  simp only [Bool.and_eq_true, decide_eq_true_eq] at c
  obtain ⟨h1, h2, h3, h4, h5, h6, h7, h8, h9, h10, h11, h12, h13, h14⟩ := c
  exact ⟨g, ⟨x, h1, h2, h3, h4⟩, h5, h6, h7, ⟨h8, h9, h2, h10⟩, ⟨h8, h9, h2, h10, h11, h12, h13, h14⟩⟩
/-- the facts of the class -/
def chkC (K : PySem.W.Frag) (C : Addr) : Bool :=
  PySem.W.plainGet K C Str.empty && (PySem.W.hasDictIn K C && (PySem.W.plainOver K C && (decide (PySem.W.findIn K (.ref C) "__setattr__" = some (some (.builtin "object.__setattr__"))) &&
  (decide (PySem.W.findIn K (.ref C) "_loops" = some none) && (decide (PySem.W.findIn K (.ref C) "_fast" = some none) && (decide (PySem.W.findIn K (.ref C) "__class__" = some (some (.builtin "object.__class__"))) &&
  (decide (PySem.W.specialIn K (.builtin "object.__class__") "__get__" = some (some (.builtin "getset_descriptor.__get__"))) && (decide (PySem.W.takesIn K (.builtin "object.__class__") = some true) && (decide (PySem.W.mroIn K C (.type "object") = some true) &&
  (decide (PySem.W.kitOne K (.ref C) (.ref C) = some true) && decide (PySem.W.kitOne K (.ref C) (.type "tuple") = some false)))))))))))
theorem chkC_of {K : PySem.W.Frag} {C : Addr} (h : chkC K C = true) : Cls K C ∧ NoAttr K C "_loops" ∧ NoAttr K C "_fast" ∧ InsTy K C := by
  unfold chkC at h
  simp only [Bool.and_eq_true, decide_eq_true_eq] at h
  obtain ⟨h1, h2, h3, h4, h5, h6, h7, h8, h9, h10, h11, h12⟩ := h
  have c : Cls K C := ⟨h1, h2, h3, h4⟩
  exact ⟨c, h5, h6, ⟨fun e => .base (.ins e c h7 h8 h9 h10), h11, h12⟩⟩
/-- a property's facts -/
def chkP (K : PySem.W.Frag) (p : Addr) : Bool := decide (PySem.W.specialIn K (.ref p) "__get__" = some (some (.builtin "property.__get__"))) && decide (PySem.W.takesIn K (.ref p) = some true)
theorem prp_of {K : PySem.W.Frag} {C p g : Addr} {f : Str} {rest : List Value} (a : PySem.W.findIn K (.ref C) f = some (some (.ref p))) (r : PySem.W.recIn K p "property" = some (.ref g :: rest)) (h : chkP K p = true) : PropOf K C f p g := by
  unfold chkP at h
  simp only [Bool.and_eq_true, decide_eq_true_eq] at h
  exact ⟨a, h.1, h.2, _, r⟩
def chkN (K : PySem.W.Frag) : Bool := blts.all fun n => decide (PySem.W.nsIn K mainGlobals n = some none)

def chkH (K : PySem.W.Frag) (C : Addr) : Bool :=
  PySem.W.plainGet K C Str.empty && (PySem.W.hasDictIn K C && (PySem.W.plainOver K C && (decide (PySem.W.findIn K (.ref C) "__setattr__" = some (some (.builtin "object.__setattr__"))) &&
  (decide (PySem.W.findIn K (.ref C) "_counts" = some none) && (decide (PySem.W.findIn K (.ref C) "_rows" = some none) && (decide (PySem.W.findIn K (.ref C) "__class__" = some (some (.builtin "object.__class__"))) &&
  (decide (PySem.W.specialIn K (.builtin "object.__class__") "__get__" = some (some (.builtin "getset_descriptor.__get__"))) && (decide (PySem.W.takesIn K (.builtin "object.__class__") = some true) && (decide (PySem.W.mroIn K C (.type "object") = some true) &&
  (decide (PySem.W.kitOne K (.ref C) (.ref C) = some true) && decide (PySem.W.kitOne K (.ref C) (.type "tuple") = some false)))))))))))
theorem chkH_of {K : PySem.W.Frag} {C : Addr} (h : chkH K C = true) : Cls K C ∧ NoAttr K C "_counts" ∧ NoAttr K C "_rows" ∧ InsTy K C := by
  unfold chkH at h
  simp only [Bool.and_eq_true, decide_eq_true_eq] at h
  obtain ⟨h1, h2, h3, h4, h5, h6, h7, h8, h9, h10, h11, h12⟩ := h
  have c : Cls K C := ⟨h1, h2, h3, h4⟩
  exact ⟨c, h5, h6, ⟨fun e => .base (.ins e c h7 h8 h9 h10), h11, h12⟩⟩
def chkK (K : PySem.W.Frag) (C : Addr) : Bool := decide (PySem.W.kitOne K (.ref C) (.type "int") = some false) && (decide (PySem.W.kitOne K (.ref C) (.type "bool") = some false) && (decide (PySem.W.kitOne K (.ref C) (.type "list") = some false) && (decide (PySem.W.kitOne K (.ref C) (.type "tuple") = some false) && (decide (PySem.W.kitOne K (.ref C) (.type "str") = some false) && decide (PySem.W.kitAny K (.ref C) [.type "list", .type "tuple"] = some false)))))
theorem chkK_of {K : PySem.W.Frag} {C : Addr} (h : chkK K C = true) : NoK K C := by
  unfold chkK at h
  simp only [Bool.and_eq_true, decide_eq_true_eq] at h
  obtain ⟨h1, h2, h3, h4, h5, h6⟩ := h
  exact ⟨h1, h2, h3, h4, h5, h6⟩
def chkT (K : PySem.W.Frag) (CR CS CP : Addr) : Bool := decide (PySem.W.exmOne K (.ref CS) (.ref CR) = some true) && (decide (PySem.W.exmOne K (.ref CP) (.ref CR) = some true) && (decide (PySem.W.kitOne K (.ref CS) (.ref CS) = some true) && (decide (PySem.W.kitOne K (.ref CS) (.ref CP) = some false) && (decide (PySem.W.kitOne K (.ref CP) (.ref CS) = some false) && (decide (PySem.W.kitOne K (.ref CP) (.ref CP) = some true) && (decide (PySem.W.kitOne K (.ref CS) (.type "ValueError") = some true) && decide (PySem.W.kitOne K (.ref CP) (.type "ValueError") = some true)))))))
theorem chkT_of {K : PySem.W.Frag} {mg : Str → Option Value} {CR CS CP : Addr} (a : mg "RunError" = some (.ref CR)) (b : mg "InvalidSize" = some (.ref CS)) (c : mg "InvalidPlace" = some (.ref CP)) (h : chkT K CR CS CP = true) : ErV K mg CR CS CP := by
  unfold chkT at h
  simp only [Bool.and_eq_true, decide_eq_true_eq] at h
  obtain ⟨h1, h2, h3, h4, h5, h6, h7, h8⟩ := h
  exact ⟨a, b, c, h1, h2, h3, h4, h5, h6, h7, h8⟩

theorem all_mk {P : Program} {w : World} {K : PySem.W.Frag} {h : Heap} {mg : Str → Option Value} {fa CR CF CL CS CQ CC p_gl p_gf p_W p_R p_K f_ply f_cre f_int f_num f_thr f_wro f_par f_loo f_ckl f_ckf f_yar f_mat f_csz f_ist f_ics f_icr f_cnr f_stc f_pln f_sum f_drw f_cat f_lat f_rom f_lii f_jue f_rfu f_law f_ini f_clo f_len f_hin f_hln f_heq f_gl f_gf f_W f_R f_K : Addr} {tLT : Tok} {r_gl r_gf r_W r_R r_K : List Value} (X : K.In h) (G : h.Ns mainGlobals mg) (hfa : mg "law" = some (.ref fa))
    {od_ply an_ply : Option Addr} {sl_ply : Array (Option Value)} {oc_ply kV_ply dc_ply pm_ply cd_ply ct_ply : Value}
    {od_cre an_cre : Option Addr} {sl_cre : Array (Option Value)} {oc_cre kV_cre dc_cre pm_cre cd_cre ct_cre : Value}
    {od_int an_int : Option Addr} {sl_int : Array (Option Value)} {oc_int kV_int dc_int pm_int cd_int ct_int : Value}
    {od_num an_num : Option Addr} {sl_num : Array (Option Value)} {oc_num kV_num dc_num pm_num cd_num ct_num : Value}
    {od_thr an_thr : Option Addr} {sl_thr : Array (Option Value)} {oc_thr kV_thr dc_thr pm_thr cd_thr ct_thr : Value}
    {od_wro an_wro : Option Addr} {sl_wro : Array (Option Value)} {oc_wro kV_wro dc_wro pm_wro cd_wro ct_wro : Value}
    {od_par an_par : Option Addr} {sl_par : Array (Option Value)} {oc_par kV_par dc_par pm_par cd_par ct_par : Value}
    {od_loo an_loo : Option Addr} {sl_loo : Array (Option Value)} {oc_loo kV_loo dc_loo pm_loo cd_loo ct_loo : Value}
    {od_ckl an_ckl : Option Addr} {sl_ckl : Array (Option Value)} {oc_ckl kV_ckl dc_ckl pm_ckl cd_ckl ct_ckl : Value}
    {od_ckf an_ckf : Option Addr} {sl_ckf : Array (Option Value)} {oc_ckf kV_ckf dc_ckf pm_ckf cd_ckf ct_ckf : Value}
    {od_yar an_yar : Option Addr} {sl_yar : Array (Option Value)} {oc_yar kV_yar dc_yar pm_yar cd_yar ct_yar : Value}
    {od_mat an_mat : Option Addr} {sl_mat : Array (Option Value)} {oc_mat kV_mat dc_mat pm_mat cd_mat ct_mat : Value}
    {od_csz an_csz : Option Addr} {sl_csz : Array (Option Value)} {oc_csz kV_csz dc_csz pm_csz cd_csz ct_csz : Value}
    {od_ist an_ist : Option Addr} {sl_ist : Array (Option Value)} {oc_ist kV_ist dc_ist pm_ist cd_ist ct_ist : Value}
    {od_ics an_ics : Option Addr} {sl_ics : Array (Option Value)} {oc_ics kV_ics dc_ics pm_ics cd_ics ct_ics : Value}
    {od_icr an_icr : Option Addr} {sl_icr : Array (Option Value)} {oc_icr kV_icr dc_icr pm_icr cd_icr ct_icr : Value}
    {od_cnr an_cnr : Option Addr} {sl_cnr : Array (Option Value)} {oc_cnr kV_cnr dc_cnr pm_cnr cd_cnr ct_cnr : Value}
    {od_stc an_stc : Option Addr} {sl_stc : Array (Option Value)} {oc_stc kV_stc dc_stc pm_stc cd_stc ct_stc : Value}
    {od_pln an_pln : Option Addr} {sl_pln : Array (Option Value)} {oc_pln kV_pln dc_pln pm_pln cd_pln ct_pln : Value}
    {od_sum an_sum : Option Addr} {sl_sum : Array (Option Value)} {oc_sum kV_sum dc_sum pm_sum cd_sum ct_sum : Value}
    {od_drw an_drw : Option Addr} {sl_drw : Array (Option Value)} {oc_drw kV_drw dc_drw pm_drw cd_drw ct_drw : Value}
    {od_cat an_cat : Option Addr} {sl_cat : Array (Option Value)} {oc_cat kV_cat dc_cat pm_cat cd_cat ct_cat : Value}
    {od_lat an_lat : Option Addr} {sl_lat : Array (Option Value)} {oc_lat kV_lat dc_lat pm_lat cd_lat ct_lat : Value}
    {od_rom an_rom : Option Addr} {sl_rom : Array (Option Value)} {oc_rom kV_rom dc_rom pm_rom cd_rom ct_rom : Value}
    {od_lii an_lii : Option Addr} {sl_lii : Array (Option Value)} {oc_lii kV_lii dc_lii pm_lii cd_lii ct_lii : Value}
    {od_jue an_jue : Option Addr} {sl_jue : Array (Option Value)} {oc_jue kV_jue dc_jue pm_jue cd_jue ct_jue : Value}
    {od_rfu an_rfu : Option Addr} {sl_rfu : Array (Option Value)} {oc_rfu kV_rfu dc_rfu pm_rfu cd_rfu ct_rfu : Value}
    {od_law an_law : Option Addr} {sl_law : Array (Option Value)} {oc_law kV_law dc_law pm_law cd_law ct_law : Value}
    {od_ini an_ini : Option Addr} {sl_ini : Array (Option Value)} {oc_ini kV_ini dc_ini pm_ini cd_ini ct_ini : Value}
    {od_clo an_clo : Option Addr} {sl_clo : Array (Option Value)} {oc_clo kV_clo dc_clo pm_clo cd_clo ct_clo : Value}
    {od_len an_len : Option Addr} {sl_len : Array (Option Value)} {oc_len kV_len dc_len pm_len cd_len ct_len : Value}
    {od_hin an_hin : Option Addr} {sl_hin : Array (Option Value)} {oc_hin kV_hin dc_hin pm_hin cd_hin ct_hin : Value}
    {od_hln an_hln : Option Addr} {sl_hln : Array (Option Value)} {oc_hln kV_hln dc_hln pm_hln cd_hln ct_hln : Value}
    {od_heq an_heq : Option Addr} {sl_heq : Array (Option Value)} {oc_heq kV_heq dc_heq pm_heq cd_heq ct_heq : Value}
    {od_gl an_gl : Option Addr} {sl_gl : Array (Option Value)} {oc_gl kV_gl dc_gl pm_gl cd_gl ct_gl : Value}
    {od_gf an_gf : Option Addr} {sl_gf : Array (Option Value)} {oc_gf kV_gf dc_gf pm_gf cd_gf ct_gf : Value}
    {od_W an_W : Option Addr} {sl_W : Array (Option Value)} {oc_W kV_W dc_W pm_W cd_W ct_W : Value}
    {od_R an_R : Option Addr} {sl_R : Array (Option Value)} {oc_R kV_R dc_R pm_R cd_R ct_R : Value}
    {od_K an_K : Option Addr} {sl_K : Array (Option Value)} {oc_K kV_K dc_K pm_K cd_K ct_K : Value}
    {CH : Addr} {tMS : Tok}
    (aR : PySem.W.nsIn K mainGlobals "RunError" = some (some (.ref CR)))
    (aF : PySem.W.nsIn K mainGlobals "InvalidFast" = some (some (.ref CF)))
    (xF : ClsE K CF)
    (aL : PySem.W.nsIn K mainGlobals "InvalidLoops" = some (some (.ref CL)))
    (xL : ClsE K CL)
    (aS : PySem.W.nsIn K mainGlobals "InvalidSize" = some (some (.ref CS)))
    (xS : ClsE K CS)
    (aQ : PySem.W.nsIn K mainGlobals "InvalidPlace" = some (some (.ref CQ)))
    (xQ : ClsE K CQ)
    (aC : PySem.W.nsIn K mainGlobals "Cloth" = some (some (.ref CC)))
    (mC : PySem.W.makesIn K CC = true)
    (kC : PySem.W.keepIn K (.ref CC) = true)
    (aT : PySem.W.nsIn K mainGlobals "LONGEST_THREAD" = some (some (.int 8 tLT)))
    (aCH : PySem.W.nsIn K mainGlobals "Chart" = some (some (.ref CH)))
    (mCH : PySem.W.makesIn K CH = true)
    (kCH : PySem.W.keepIn K (.ref CH) = true)
    (aM : PySem.W.nsIn K mainGlobals "MOST_IN_STITCH" = some (some (.int 3 tMS)))
    (n_ply : PySem.W.nsIn K mainGlobals "_law_ply" = some (some (.ref f_ply)))
    (n_cre : PySem.W.nsIn K mainGlobals "_law_creel" = some (some (.ref f_cre)))
    (n_int : PySem.W.nsIn K mainGlobals "is_integer" = some (some (.ref f_int)))
    (n_num : PySem.W.nsIn K mainGlobals "is_number" = some (some (.ref f_num)))
    (n_thr : PySem.W.nsIn K mainGlobals "is_thread" = some (some (.ref f_thr)))
    (n_wro : PySem.W.nsIn K mainGlobals "wrong_number" = some (some (.ref f_wro)))
    (n_par : PySem.W.nsIn K mainGlobals "is_parents" = some (some (.ref f_par)))
    (n_loo : PySem.W.nsIn K mainGlobals "is_loop" = some (some (.ref f_loo)))
    (n_ckl : PySem.W.nsIn K mainGlobals "check_loops" = some (some (.ref f_ckl)))
    (n_ckf : PySem.W.nsIn K mainGlobals "check_fast" = some (some (.ref f_ckf)))
    (n_yar : PySem.W.nsIn K mainGlobals "_law_yarns" = some (some (.ref f_yar)))
    (n_mat : PySem.W.nsIn K mainGlobals "_law_matched" = some (some (.ref f_mat)))
    (n_csz : PySem.W.nsIn K mainGlobals "check_size" = some (some (.ref f_csz)))
    (n_ist : PySem.W.nsIn K mainGlobals "is_stitch" = some (some (.ref f_ist)))
    (n_ics : PySem.W.nsIn K mainGlobals "is_chart_stitch" = some (some (.ref f_ics)))
    (n_icr : PySem.W.nsIn K mainGlobals "is_chart_row" = some (some (.ref f_icr)))
    (n_cnr : PySem.W.nsIn K mainGlobals "count_rows" = some (some (.ref f_cnr)))
    (n_stc : PySem.W.nsIn K mainGlobals "_law_stitches" = some (some (.ref f_stc)))
    (n_pln : PySem.W.nsIn K mainGlobals "_law_plan" = some (some (.ref f_pln)))
    (n_sum : PySem.W.nsIn K mainGlobals "_law_sums" = some (some (.ref f_sum)))
    (n_drw : PySem.W.nsIn K mainGlobals "draw_row" = some (some (.ref f_drw)))
    (n_cat : PySem.W.nsIn K mainGlobals "cloth_at" = some (some (.ref f_cat)))
    (n_lat : PySem.W.nsIn K mainGlobals "loop_at" = some (some (.ref f_lat)))
    (n_rom : PySem.W.nsIn K mainGlobals "_law_room" = some (some (.ref f_rom)))
    (n_lii : PySem.W.nsIn K mainGlobals "_law_is_int" = some (some (.ref f_lii)))
    (n_jue : PySem.W.nsIn K mainGlobals "_law_due" = some (some (.ref f_jue)))
    (n_rfu : PySem.W.nsIn K mainGlobals "_law_refusal" = some (some (.ref f_rfu)))
    (n_law : PySem.W.nsIn K mainGlobals "law" = some (some (.ref f_law)))
    (n_ini : PySem.W.findIn K (.ref CR) "__init__" = some (some (.ref f_ini)))
    (i_ini : PySem.W.isFn K (.ref f_ini) = true)
    (n_clo : PySem.W.findIn K (.ref CC) "__init__" = some (some (.ref f_clo)))
    (i_clo : PySem.W.isFn K (.ref f_clo) = true)
    (n_len : PySem.W.findIn K (.ref CC) "__len__" = some (some (.ref f_len)))
    (i_len : PySem.W.isFn K (.ref f_len) = true)
    (n_hin : PySem.W.findIn K (.ref CH) "__init__" = some (some (.ref f_hin)))
    (i_hin : PySem.W.isFn K (.ref f_hin) = true)
    (n_hln : PySem.W.findIn K (.ref CH) "__len__" = some (some (.ref f_hln)))
    (i_hln : PySem.W.isFn K (.ref f_hln) = true)
    (n_heq : PySem.W.findIn K (.ref CH) "__eq__" = some (some (.ref f_heq)))
    (i_heq : PySem.W.isFn K (.ref f_heq) = true)
    (n_gl : PySem.W.findIn K (.ref CC) "loops" = some (some (.ref p_gl)))
    (q_gl : PySem.W.recIn K p_gl "property" = some (.ref f_gl :: r_gl))
    (n_gf : PySem.W.findIn K (.ref CC) "fast" = some (some (.ref p_gf)))
    (q_gf : PySem.W.recIn K p_gf "property" = some (.ref f_gf :: r_gf))
    (n_W : PySem.W.findIn K (.ref CH) "width" = some (some (.ref p_W)))
    (q_W : PySem.W.recIn K p_W "property" = some (.ref f_W :: r_W))
    (n_R : PySem.W.findIn K (.ref CH) "rows" = some (some (.ref p_R)))
    (q_R : PySem.W.recIn K p_R "property" = some (.ref f_R :: r_R))
    (n_K : PySem.W.findIn K (.ref CH) "counts" = some (some (.ref p_K)))
    (q_K : PySem.W.recIn K p_K "property" = some (.ref f_K :: r_K))
    (l_ply : K.lookup f_ply = some ⟨oc_ply, od_ply, .func (PySem.W.fnOf "_law_ply" "_law_ply" (defArgs sPly) (defBody sPly) (defScope sPly) .none kV_ply dc_ply pm_ply an_ply cd_ply ct_ply), sl_ply⟩)
    (c_ply : PySem.W.codeIn K cd_ply "_law_ply" = true)
    (k_ply : PySem.W.keepIn K (.ref f_ply) = true)
    (l_cre : K.lookup f_cre = some ⟨oc_cre, od_cre, .func (PySem.W.fnOf "_law_creel" "_law_creel" (defArgs sCreel) (defBody sCreel) (defScope sCreel) .none kV_cre dc_cre pm_cre an_cre cd_cre ct_cre), sl_cre⟩)
    (c_cre : PySem.W.codeIn K cd_cre "_law_creel" = true)
    (k_cre : PySem.W.keepIn K (.ref f_cre) = true)
    (l_int : K.lookup f_int = some ⟨oc_int, od_int, .func (PySem.W.fnOf "is_integer" "is_integer" (defArgs sIsInt) (defBody sIsInt) (defScope sIsInt) .none kV_int dc_int pm_int an_int cd_int ct_int), sl_int⟩)
    (c_int : PySem.W.codeIn K cd_int "is_integer" = true)
    (k_int : PySem.W.keepIn K (.ref f_int) = true)
    (l_num : K.lookup f_num = some ⟨oc_num, od_num, .func (PySem.W.fnOf "is_number" "is_number" (defArgs sIsNum) (defBody sIsNum) (defScope sIsNum) .none kV_num dc_num pm_num an_num cd_num ct_num), sl_num⟩)
    (c_num : PySem.W.codeIn K cd_num "is_number" = true)
    (k_num : PySem.W.keepIn K (.ref f_num) = true)
    (l_thr : K.lookup f_thr = some ⟨oc_thr, od_thr, .func (PySem.W.fnOf "is_thread" "is_thread" (defArgs sIsThr) (defBody sIsThr) (defScope sIsThr) .none kV_thr dc_thr pm_thr an_thr cd_thr ct_thr), sl_thr⟩)
    (c_thr : PySem.W.codeIn K cd_thr "is_thread" = true)
    (k_thr : PySem.W.keepIn K (.ref f_thr) = true)
    (l_wro : K.lookup f_wro = some ⟨oc_wro, od_wro, .func (PySem.W.fnOf "wrong_number" "wrong_number" (defArgs sWrong) (defBody sWrong) (defScope sWrong) .none kV_wro dc_wro pm_wro an_wro cd_wro ct_wro), sl_wro⟩)
    (c_wro : PySem.W.codeIn K cd_wro "wrong_number" = true)
    (k_wro : PySem.W.keepIn K (.ref f_wro) = true)
    (l_par : K.lookup f_par = some ⟨oc_par, od_par, .func (PySem.W.fnOf "is_parents" "is_parents" (defArgs sPar) (defBody sPar) (defScope sPar) .none kV_par dc_par pm_par an_par cd_par ct_par), sl_par⟩)
    (c_par : PySem.W.codeIn K cd_par "is_parents" = true)
    (k_par : PySem.W.keepIn K (.ref f_par) = true)
    (l_loo : K.lookup f_loo = some ⟨oc_loo, od_loo, .func (PySem.W.fnOf "is_loop" "is_loop" (defArgs sIsLoop) (defBody sIsLoop) (defScope sIsLoop) .none kV_loo dc_loo pm_loo an_loo cd_loo ct_loo), sl_loo⟩)
    (c_loo : PySem.W.codeIn K cd_loo "is_loop" = true)
    (k_loo : PySem.W.keepIn K (.ref f_loo) = true)
    (l_ckl : K.lookup f_ckl = some ⟨oc_ckl, od_ckl, .func (PySem.W.fnOf "check_loops" "check_loops" (defArgs sChkL) (defBody sChkL) (defScope sChkL) .none kV_ckl dc_ckl pm_ckl an_ckl cd_ckl ct_ckl), sl_ckl⟩)
    (c_ckl : PySem.W.codeIn K cd_ckl "check_loops" = true)
    (k_ckl : PySem.W.keepIn K (.ref f_ckl) = true)
    (l_ckf : K.lookup f_ckf = some ⟨oc_ckf, od_ckf, .func (PySem.W.fnOf "check_fast" "check_fast" (defArgs sChkF) (defBody sChkF) (defScope sChkF) .none kV_ckf dc_ckf pm_ckf an_ckf cd_ckf ct_ckf), sl_ckf⟩)
    (c_ckf : PySem.W.codeIn K cd_ckf "check_fast" = true)
    (k_ckf : PySem.W.keepIn K (.ref f_ckf) = true)
    (l_yar : K.lookup f_yar = some ⟨oc_yar, od_yar, .func (PySem.W.fnOf "_law_yarns" "_law_yarns" (defArgs sYarns) (defBody sYarns) (defScope sYarns) .none kV_yar dc_yar pm_yar an_yar cd_yar ct_yar), sl_yar⟩)
    (c_yar : PySem.W.codeIn K cd_yar "_law_yarns" = true)
    (k_yar : PySem.W.keepIn K (.ref f_yar) = true)
    (l_mat : K.lookup f_mat = some ⟨oc_mat, od_mat, .func (PySem.W.fnOf "_law_matched" "_law_matched" (defArgs sMat) (defBody sMat) (defScope sMat) .none kV_mat dc_mat pm_mat an_mat cd_mat ct_mat), sl_mat⟩)
    (c_mat : PySem.W.codeIn K cd_mat "_law_matched" = true)
    (k_mat : PySem.W.keepIn K (.ref f_mat) = true)
    (l_csz : K.lookup f_csz = some ⟨oc_csz, od_csz, .func (PySem.W.fnOf "check_size" "check_size" (defArgs sCsz) (defBody sCsz) (defScope sCsz) .none kV_csz dc_csz pm_csz an_csz cd_csz ct_csz), sl_csz⟩)
    (c_csz : PySem.W.codeIn K cd_csz "check_size" = true)
    (k_csz : PySem.W.keepIn K (.ref f_csz) = true)
    (l_ist : K.lookup f_ist = some ⟨oc_ist, od_ist, .func (PySem.W.fnOf "is_stitch" "is_stitch" (defArgs sIst) (defBody sIst) (defScope sIst) .none kV_ist dc_ist pm_ist an_ist cd_ist ct_ist), sl_ist⟩)
    (c_ist : PySem.W.codeIn K cd_ist "is_stitch" = true)
    (k_ist : PySem.W.keepIn K (.ref f_ist) = true)
    (l_ics : K.lookup f_ics = some ⟨oc_ics, od_ics, .func (PySem.W.fnOf "is_chart_stitch" "is_chart_stitch" (defArgs sIcs) (defBody sIcs) (defScope sIcs) .none kV_ics dc_ics pm_ics an_ics cd_ics ct_ics), sl_ics⟩)
    (c_ics : PySem.W.codeIn K cd_ics "is_chart_stitch" = true)
    (k_ics : PySem.W.keepIn K (.ref f_ics) = true)
    (l_icr : K.lookup f_icr = some ⟨oc_icr, od_icr, .func (PySem.W.fnOf "is_chart_row" "is_chart_row" (defArgs sIcr) (defBody sIcr) (defScope sIcr) .none kV_icr dc_icr pm_icr an_icr cd_icr ct_icr), sl_icr⟩)
    (c_icr : PySem.W.codeIn K cd_icr "is_chart_row" = true)
    (k_icr : PySem.W.keepIn K (.ref f_icr) = true)
    (l_cnr : K.lookup f_cnr = some ⟨oc_cnr, od_cnr, .func (PySem.W.fnOf "count_rows" "count_rows" (defArgs sCnr) (defBody sCnr) (defScope sCnr) .none kV_cnr dc_cnr pm_cnr an_cnr cd_cnr ct_cnr), sl_cnr⟩)
    (c_cnr : PySem.W.codeIn K cd_cnr "count_rows" = true)
    (k_cnr : PySem.W.keepIn K (.ref f_cnr) = true)
    (l_stc : K.lookup f_stc = some ⟨oc_stc, od_stc, .func (PySem.W.fnOf "_law_stitches" "_law_stitches" (defArgs sStc) (defBody sStc) (defScope sStc) .none kV_stc dc_stc pm_stc an_stc cd_stc ct_stc), sl_stc⟩)
    (c_stc : PySem.W.codeIn K cd_stc "_law_stitches" = true)
    (k_stc : PySem.W.keepIn K (.ref f_stc) = true)
    (l_pln : K.lookup f_pln = some ⟨oc_pln, od_pln, .func (PySem.W.fnOf "_law_plan" "_law_plan" (defArgs sPln) (defBody sPln) (defScope sPln) .none kV_pln dc_pln pm_pln an_pln cd_pln ct_pln), sl_pln⟩)
    (c_pln : PySem.W.codeIn K cd_pln "_law_plan" = true)
    (k_pln : PySem.W.keepIn K (.ref f_pln) = true)
    (l_sum : K.lookup f_sum = some ⟨oc_sum, od_sum, .func (PySem.W.fnOf "_law_sums" "_law_sums" (defArgs sSum) (defBody sSum) (defScope sSum) .none kV_sum dc_sum pm_sum an_sum cd_sum ct_sum), sl_sum⟩)
    (c_sum : PySem.W.codeIn K cd_sum "_law_sums" = true)
    (k_sum : PySem.W.keepIn K (.ref f_sum) = true)
    (l_drw : K.lookup f_drw = some ⟨oc_drw, od_drw, .func (PySem.W.fnOf "draw_row" "draw_row" (defArgs sDrw) (defBody sDrw) (defScope sDrw) .none kV_drw dc_drw pm_drw an_drw cd_drw ct_drw), sl_drw⟩)
    (c_drw : PySem.W.codeIn K cd_drw "draw_row" = true)
    (k_drw : PySem.W.keepIn K (.ref f_drw) = true)
    (l_cat : K.lookup f_cat = some ⟨oc_cat, od_cat, .func (PySem.W.fnOf "cloth_at" "cloth_at" (defArgs sCat) (defBody sCat) (defScope sCat) .none kV_cat dc_cat pm_cat an_cat cd_cat ct_cat), sl_cat⟩)
    (c_cat : PySem.W.codeIn K cd_cat "cloth_at" = true)
    (k_cat : PySem.W.keepIn K (.ref f_cat) = true)
    (l_lat : K.lookup f_lat = some ⟨oc_lat, od_lat, .func (PySem.W.fnOf "loop_at" "loop_at" (defArgs sLat) (defBody sLat) (defScope sLat) .none kV_lat dc_lat pm_lat an_lat cd_lat ct_lat), sl_lat⟩)
    (c_lat : PySem.W.codeIn K cd_lat "loop_at" = true)
    (k_lat : PySem.W.keepIn K (.ref f_lat) = true)
    (l_rom : K.lookup f_rom = some ⟨oc_rom, od_rom, .func (PySem.W.fnOf "_law_room" "_law_room" (defArgs sRom) (defBody sRom) (defScope sRom) .none kV_rom dc_rom pm_rom an_rom cd_rom ct_rom), sl_rom⟩)
    (c_rom : PySem.W.codeIn K cd_rom "_law_room" = true)
    (k_rom : PySem.W.keepIn K (.ref f_rom) = true)
    (l_lii : K.lookup f_lii = some ⟨oc_lii, od_lii, .func (PySem.W.fnOf "_law_is_int" "_law_is_int" (defArgs sLii) (defBody sLii) (defScope sLii) .none kV_lii dc_lii pm_lii an_lii cd_lii ct_lii), sl_lii⟩)
    (c_lii : PySem.W.codeIn K cd_lii "_law_is_int" = true)
    (k_lii : PySem.W.keepIn K (.ref f_lii) = true)
    (l_jue : K.lookup f_jue = some ⟨oc_jue, od_jue, .func (PySem.W.fnOf "_law_due" "_law_due" (defArgs sJue) (defBody sJue) (defScope sJue) .none kV_jue dc_jue pm_jue an_jue cd_jue ct_jue), sl_jue⟩)
    (c_jue : PySem.W.codeIn K cd_jue "_law_due" = true)
    (k_jue : PySem.W.keepIn K (.ref f_jue) = true)
    (l_rfu : K.lookup f_rfu = some ⟨oc_rfu, od_rfu, .func (PySem.W.fnOf "_law_refusal" "_law_refusal" (defArgs sRfu) (defBody sRfu) (defScope sRfu) .none kV_rfu dc_rfu pm_rfu an_rfu cd_rfu ct_rfu), sl_rfu⟩)
    (c_rfu : PySem.W.codeIn K cd_rfu "_law_refusal" = true)
    (k_rfu : PySem.W.keepIn K (.ref f_rfu) = true)
    (l_law : K.lookup f_law = some ⟨oc_law, od_law, .func (PySem.W.fnOf "law" "law" (defArgs sLaw) (defBody sLaw) (defScope sLaw) .none kV_law dc_law pm_law an_law cd_law ct_law), sl_law⟩)
    (c_law : PySem.W.codeIn K cd_law "law" = true)
    (k_law : PySem.W.keepIn K (.ref f_law) = true)
    (l_ini : K.lookup f_ini = some ⟨oc_ini, od_ini, .func (PySem.W.fnOf "__init__" "RunError.__init__" (defArgs sInit) (defBody sInit) (defScope sInit) .none kV_ini dc_ini pm_ini an_ini cd_ini ct_ini), sl_ini⟩)
    (c_ini : PySem.W.codeIn K cd_ini "RunError.__init__" = true)
    (k_ini : PySem.W.keepIn K (.ref f_ini) = true)
    (l_clo : K.lookup f_clo = some ⟨oc_clo, od_clo, .func (PySem.W.fnOf "__init__" "Cloth.__init__" (defArgs sClo) (defBody sClo) (defScope sClo) .none kV_clo dc_clo pm_clo an_clo cd_clo ct_clo), sl_clo⟩)
    (c_clo : PySem.W.codeIn K cd_clo "Cloth.__init__" = true)
    (k_clo : PySem.W.keepIn K (.ref f_clo) = true)
    (l_len : K.lookup f_len = some ⟨oc_len, od_len, .func (PySem.W.fnOf "__len__" "Cloth.__len__" (defArgs sLn) (defBody sLn) (defScope sLn) .none kV_len dc_len pm_len an_len cd_len ct_len), sl_len⟩)
    (c_len : PySem.W.codeIn K cd_len "Cloth.__len__" = true)
    (k_len : PySem.W.keepIn K (.ref f_len) = true)
    (l_hin : K.lookup f_hin = some ⟨oc_hin, od_hin, .func (PySem.W.fnOf "__init__" "Chart.__init__" (defArgs sHin) (defBody sHin) (defScope sHin) .none kV_hin dc_hin pm_hin an_hin cd_hin ct_hin), sl_hin⟩)
    (c_hin : PySem.W.codeIn K cd_hin "Chart.__init__" = true)
    (k_hin : PySem.W.keepIn K (.ref f_hin) = true)
    (l_hln : K.lookup f_hln = some ⟨oc_hln, od_hln, .func (PySem.W.fnOf "__len__" "Chart.__len__" (defArgs sHln) (defBody sHln) (defScope sHln) .none kV_hln dc_hln pm_hln an_hln cd_hln ct_hln), sl_hln⟩)
    (c_hln : PySem.W.codeIn K cd_hln "Chart.__len__" = true)
    (k_hln : PySem.W.keepIn K (.ref f_hln) = true)
    (l_heq : K.lookup f_heq = some ⟨oc_heq, od_heq, .func (PySem.W.fnOf "__eq__" "Chart.__eq__" (defArgs sHeq) (defBody sHeq) (defScope sHeq) .none kV_heq dc_heq pm_heq an_heq cd_heq ct_heq), sl_heq⟩)
    (c_heq : PySem.W.codeIn K cd_heq "Chart.__eq__" = true)
    (k_heq : PySem.W.keepIn K (.ref f_heq) = true)
    (l_gl : K.lookup f_gl = some ⟨oc_gl, od_gl, .func (PySem.W.fnOf "loops" "Cloth.loops" (defArgs sPl) (defBody sPl) (defScope sPl) .none kV_gl dc_gl pm_gl an_gl cd_gl ct_gl), sl_gl⟩)
    (c_gl : PySem.W.codeIn K cd_gl "Cloth.loops" = true)
    (k_gl : PySem.W.keepIn K (.ref f_gl) = true)
    (l_gf : K.lookup f_gf = some ⟨oc_gf, od_gf, .func (PySem.W.fnOf "fast" "Cloth.fast" (defArgs sPf) (defBody sPf) (defScope sPf) .none kV_gf dc_gf pm_gf an_gf cd_gf ct_gf), sl_gf⟩)
    (c_gf : PySem.W.codeIn K cd_gf "Cloth.fast" = true)
    (k_gf : PySem.W.keepIn K (.ref f_gf) = true)
    (l_W : K.lookup f_W = some ⟨oc_W, od_W, .func (PySem.W.fnOf "width" "Chart.width" (defArgs sHwd) (defBody sHwd) (defScope sHwd) .none kV_W dc_W pm_W an_W cd_W ct_W), sl_W⟩)
    (c_W : PySem.W.codeIn K cd_W "Chart.width" = true)
    (k_W : PySem.W.keepIn K (.ref f_W) = true)
    (l_R : K.lookup f_R = some ⟨oc_R, od_R, .func (PySem.W.fnOf "rows" "Chart.rows" (defArgs sHrw) (defBody sHrw) (defScope sHrw) .none kV_R dc_R pm_R an_R cd_R ct_R), sl_R⟩)
    (c_R : PySem.W.codeIn K cd_R "Chart.rows" = true)
    (k_R : PySem.W.keepIn K (.ref f_R) = true)
    (l_K : K.lookup f_K = some ⟨oc_K, od_K, .func (PySem.W.fnOf "counts" "Chart.counts" (defArgs sHct) (defBody sHct) (defScope sHct) .none kV_K dc_K pm_K an_K cd_K ct_K), sl_K⟩)
    (c_K : PySem.W.codeIn K cd_K "Chart.counts" = true)
    (k_K : PySem.W.keepIn K (.ref f_K) = true)
    (hF : chkE K f_ini CF = true)
    (hL : chkE K f_ini CL = true)
    (hS : chkE K f_ini CS = true)
    (hQ : chkE K f_ini CQ = true)
    (hC : chkC K CC = true)
    (hP : (chkP K p_gl && chkP K p_gf && chkP K p_W && chkP K p_R && chkP K p_K) = true)
    (hN : chkN K = true)
    (hCH : chkH K CH = true)
    (hKH : chkK K CH = true)
    (hT : chkT K CR CS CQ = true)
    : ∃ fd : FuncData, (∀ (s : Shared) (v : Value), BindsTo s fd ⟨[v], []⟩ [("script", v)]) ∧ ∀ base : Heap, K.In base → base.Ns mainGlobals mg → FnOk P w K mg base CX0 10 fa fd ["script"] (spLaw K) := by
  have e := hfa.symm.trans (PySem.W.mg_of X G n_law)
  cases e
  have B : Bl mg := fun n hn => PySem.W.mg_none_of X G (of_decide_eq_true (List.all_eq_true.mp hN n hn))
  have XF := xce_of (PySem.W.mg_of X G aF) xF hF
  have XL' := xce_of (PySem.W.mg_of X G aL) xL hL
  have XS := xce_of (PySem.W.mg_of X G aS) xS hS
  have XQ := xce_of (PySem.W.mg_of X G aQ) xQ hQ
  obtain ⟨cc, n1, n2, it⟩ := chkC_of hC
  simp only [Bool.and_eq_true] at hP
  obtain ⟨⟨⟨⟨hP0, hP1⟩, hP2⟩, hP3⟩, hP4⟩ := hP
  have aL' := prp_of n_gl q_gl hP0
  have aF' := prp_of n_gf q_gf hP1
  have aP_W := prp_of n_W q_W hP2
  have aP_R := prp_of n_R q_R hP3
  have aP_K := prp_of n_K q_K hP4
  have F_ply := fun_mk (st := sPly) l_ply c_ply k_ply
  have b_ply := F_ply.binds (ps := ["creel", "span"]) fun _ _ _ _ _ _ us hl => match us, hl with | [_, _], _ => rfl
  have F_cre := fun_mk (st := sCreel) l_cre c_cre k_cre
  have b_cre := F_cre.binds (ps := ["script", "at"]) fun _ _ _ _ _ _ us hl => match us, hl with | [_, _], _ => rfl
  have F_int := fun_mk (st := sIsInt) l_int c_int k_int
  have b_int := F_int.binds (ps := ["value"]) fun _ _ _ _ _ _ us hl => match us, hl with | [_], _ => rfl
  have F_num := fun_mk (st := sIsNum) l_num c_num k_num
  have b_num := F_num.binds (ps := ["value", "many"]) fun _ _ _ _ _ _ us hl => match us, hl with | [_, _], _ => rfl
  have F_thr := fun_mk (st := sIsThr) l_thr c_thr k_thr
  have b_thr := F_thr.binds (ps := ["value"]) fun _ _ _ _ _ _ us hl => match us, hl with | [_], _ => rfl
  have F_wro := fun_mk (st := sWrong) l_wro c_wro k_wro
  have b_wro := F_wro.binds (ps := ["numbers", "many"]) fun _ _ _ _ _ _ us hl => match us, hl with | [_, _], _ => rfl
  have F_par := fun_mk (st := sPar) l_par c_par k_par
  have b_par := F_par.binds (ps := ["value", "many"]) fun _ _ _ _ _ _ us hl => match us, hl with | [_, _], _ => rfl
  have F_loo := fun_mk (st := sIsLoop) l_loo c_loo k_loo
  have b_loo := F_loo.binds (ps := ["value", "number"]) fun _ _ _ _ _ _ us hl => match us, hl with | [_, _], _ => rfl
  have F_ckl := fun_mk (st := sChkL) l_ckl c_ckl k_ckl
  have b_ckl := F_ckl.binds (ps := ["loops"]) fun _ _ _ _ _ _ us hl => match us, hl with | [_], _ => rfl
  have F_ckf := fun_mk (st := sChkF) l_ckf c_ckf k_ckf
  have b_ckf := F_ckf.binds (ps := ["fast", "many"]) fun _ _ _ _ _ _ us hl => match us, hl with | [_, _], _ => rfl
  have F_yar := fun_mk (st := sYarns) l_yar c_yar k_yar
  have b_yar := F_yar.binds (ps := ["creel", "many"]) fun _ _ _ _ _ _ us hl => match us, hl with | [_, _], _ => rfl
  have F_mat := fun_mk (st := sMat) l_mat c_mat k_mat
  have b_mat := F_mat.binds (ps := ["found", "due"]) fun _ _ _ _ _ _ us hl => match us, hl with | [_, _], _ => rfl
  have F_csz := fun_mk (st := sCsz) l_csz c_csz k_csz
  have b_csz := F_csz.binds (ps := ["size"]) fun _ _ _ _ _ _ us hl => match us, hl with | [_], _ => rfl
  have F_ist := fun_mk (st := sIst) l_ist c_ist k_ist
  have b_ist := F_ist.binds (ps := ["value"]) fun _ _ _ _ _ _ us hl => match us, hl with | [_], _ => rfl
  have F_ics := fun_mk (st := sIcs) l_ics c_ics k_ics
  have b_ics := F_ics.binds (ps := ["value"]) fun _ _ _ _ _ _ us hl => match us, hl with | [_], _ => rfl
  have F_icr := fun_mk (st := sIcr) l_icr c_icr k_icr
  have b_icr := F_icr.binds (ps := ["value", "count"]) fun _ _ _ _ _ _ us hl => match us, hl with | [_, _], _ => rfl
  have F_cnr := fun_mk (st := sCnr) l_cnr c_cnr k_cnr
  have b_cnr := F_cnr.binds (ps := ["width", "rows"]) fun _ _ _ _ _ _ us hl => match us, hl with | [_, _], _ => rfl
  have F_stc := fun_mk (st := sStc) l_stc c_stc k_stc
  have b_stc := F_stc.binds (ps := ["creel", "count", "due"]) fun _ _ _ _ _ _ us hl => match us, hl with | [_, _, _], _ => rfl
  have F_pln := fun_mk (st := sPln) l_pln c_pln k_pln
  have b_pln := F_pln.binds (ps := ["creel", "most", "rows_most"]) fun _ _ _ _ _ _ us hl => match us, hl with | [_, _, _], _ => rfl
  have F_sum := fun_mk (st := sSum) l_sum c_sum k_sum
  have b_sum := F_sum.binds (ps := ["plan"]) fun _ _ _ _ _ _ us hl => match us, hl with | [_], _ => rfl
  have F_drw := fun_mk (st := sDrw) l_drw c_drw k_drw
  have b_drw := F_drw.binds (ps := ["row", "first", "ring", "m"]) fun _ _ _ _ _ _ us hl => match us, hl with | [_, _, _, _], _ => rfl
  have F_cat := fun_mk (st := sCat) l_cat c_cat k_cat
  have b_cat := F_cat.binds (ps := ["chart", "m", "n"]) fun _ _ _ _ _ _ us hl => match us, hl with | [_, _, _], _ => rfl
  have F_lat := fun_mk (st := sLat) l_lat c_lat k_lat
  have b_lat := F_lat.binds (ps := ["chart", "m", "n", "time", "row", "number"]) fun _ _ _ _ _ _ us hl => match us, hl with | [_, _, _, _, _, _], _ => rfl
  have F_rom := fun_mk (st := sRom) l_rom c_rom k_rom
  have b_rom := F_rom.binds (ps := ["plan", "most"]) fun _ _ _ _ _ _ us hl => match us, hl with | [_, _], _ => rfl
  have F_lii := fun_mk (st := sLii) l_lii c_lii k_lii
  have b_lii := F_lii.binds (ps := ["thing"]) fun _ _ _ _ _ _ us hl => match us, hl with | [_], _ => rfl
  have F_jue := fun_mk (st := sJue) l_jue c_jue k_jue
  have b_jue := F_jue.binds (ps := ["plan", "some", "both"]) fun _ _ _ _ _ _ us hl => match us, hl with | [_, _, _], _ => rfl
  have F_rfu := fun_mk (st := sRfu) l_rfu c_rfu k_rfu
  have b_rfu := F_rfu.binds (ps := ["net", "some", "both"]) fun _ _ _ _ _ _ us hl => match us, hl with | [_, _, _], _ => rfl
  have F_law := fun_mk (st := sLaw) l_law c_law k_law
  have F_ini := fun_mk (st := sInit) l_ini c_ini k_ini
  have b_ini := F_ini.binds (ps := ["self", "value"]) fun _ _ _ _ _ _ us hl => match us, hl with | [_, _], _ => rfl
  have F_clo := fun_mk (st := sClo) l_clo c_clo k_clo
  have b_clo := F_clo.binds (ps := ["self", "loops", "fast"]) fun _ _ _ _ _ _ us hl => match us, hl with | [_, _, _], _ => rfl
  have F_len := fun_mk (st := sLn) l_len c_len k_len
  have b_len := F_len.binds (ps := ["self"]) fun _ _ _ _ _ _ us hl => match us, hl with | [_], _ => rfl
  have F_hin := fun_mk (st := sHin) l_hin c_hin k_hin
  have b_hin := F_hin.binds (ps := ["self", "width", "rows"]) fun _ _ _ _ _ _ us hl => match us, hl with | [_, _, _], _ => rfl
  have F_hln := fun_mk (st := sHln) l_hln c_hln k_hln
  have b_hln := F_hln.binds (ps := ["self"]) fun _ _ _ _ _ _ us hl => match us, hl with | [_], _ => rfl
  have F_heq := fun_mk (st := sHeq) l_heq c_heq k_heq
  have b_heq := F_heq.binds (ps := ["self", "other"]) fun _ _ _ _ _ _ us hl => match us, hl with | [_, _], _ => rfl
  have F_gl := fun_mk (st := sPl) l_gl c_gl k_gl
  have b_gl := F_gl.binds (ps := ["self"]) fun _ _ _ _ _ _ us hl => match us, hl with | [_], _ => rfl
  have F_gf := fun_mk (st := sPf) l_gf c_gf k_gf
  have b_gf := F_gf.binds (ps := ["self"]) fun _ _ _ _ _ _ us hl => match us, hl with | [_], _ => rfl
  have F_W := fun_mk (st := sHwd) l_W c_W k_W
  have b_W := F_W.binds (ps := ["self"]) fun _ _ _ _ _ _ us hl => match us, hl with | [_], _ => rfl
  have F_R := fun_mk (st := sHrw) l_R c_R k_R
  have b_R := F_R.binds (ps := ["self"]) fun _ _ _ _ _ _ us hl => match us, hl with | [_], _ => rfl
  have F_K := fun_mk (st := sHct) l_K c_K k_K
  have b_K := F_K.binds (ps := ["self"]) fun _ _ _ _ _ _ us hl => match us, hl with | [_], _ => rfl
  have bd : Bind1 K (PySem.W.fnOf "__init__" "RunError.__init__" (defArgs sInit) (defBody sInit) (defScope sInit) .none kV_ini dc_ini pm_ini an_ini cd_ini ct_ini) "value" := ⟨fun s a u _ => .of_eq rfl, fun s a u _ => .of_eq rfl⟩
  have m : ∀ {n : Str} {f : Addr}, PySem.W.nsIn K mainGlobals n = some (some (.ref f)) → mg n = some (.ref f) := fun q => PySem.W.mg_of X G q
  refine ⟨PySem.W.fnOf "law" "law" (defArgs sLaw) (defBody sLaw) (defScope sLaw) .none kV_law dc_law pm_law an_law cd_law ct_law, fun s v => .of_eq rfl, fun base _ _ => ?_⟩
  have I : Ini P w K mg base f_ini _ := ⟨ok_init F_ini, bd⟩
  have G_ply := ok_ply (P := P) (w := w) (base := base) F_ply B
  have G_cre := ok_creel (P := P) (w := w) (base := base) F_cre B
  have G_int := ok_IsInt (P := P) (w := w) (base := base) F_int B
  have G_num := ok_IsNum F_num B G_int (m n_int) k_int b_int
  have G_thr := ok_IsThr (P := P) (w := w) (base := base) F_thr B ⟨_, PySem.W.mg_of X G aT⟩
  have G_wro := ok_Wrong F_wro B G_num (m n_num) k_num b_num
  have G_par := ok_Par F_par B G_num (m n_num) k_num b_num
  have G_loo := ok_IsLoop F_loo B G_thr (m n_thr) k_thr b_thr G_par (m n_par) k_par b_par
  have G_ckl := ok_ChkL F_ckl B G_loo (m n_loo) k_loo b_loo I XL'
  have G_ckf := ok_ChkF F_ckf B G_wro (m n_wro) k_wro b_wro I XF
  have G_clo := ok_Clo (CC := CC) F_clo B G_ckl (m n_ckl) k_ckl b_ckl G_ckf (m n_ckf) k_ckf b_ckf
  have G_yar := ok_yarns F_yar F_ply B (m n_ply) b_ply G_ply
  have G_mat : FnOk P w K mg base CX0 6 f_mat _ ["found", "due"] (spM K 6) := mat_step 5 F_mat B (m n_mat) b_mat (mat_step 4 F_mat B (m n_mat) b_mat (mat_step 3 F_mat B (m n_mat) b_mat (mat_step 2 F_mat B (m n_mat) b_mat (mat_step 1 F_mat B (m n_mat) b_mat (mat_step 0 F_mat B (m n_mat) b_mat ok_never)))))
  have Pr : Pr2 P w K mg base CC := { pL := _, pF := _, gL := _, gF := _, gN := _, fL := _, fF := _, fN := _, aL := aL', aF := aF', aN := ⟨n_len, i_len⟩, bL := b_gl, bF := b_gf, bN := b_len, oL := ok_Pl F_gl B, oF := ok_Pf F_gf B, oN := ok_Ln F_len B, cc := cc, n1 := n1, n2 := n2 }
  have Cl : Cl2 P w K mg base CC CF CL := { fC := _, dC := _, cc := cc, n1 := n1, n2 := n2, mC := ⟨mC, n_clo, i_clo, kC⟩, oC := G_clo, gC := m aC, bC := b_clo }
  obtain ⟨ccH, n1H, n2H, itH⟩ := chkH_of hCH
  have nkH := chkK_of hKH
  have T := chkT_of (m aR) (m aS) (m aQ) hT
  have G_csz := ok_Csz F_csz B G_int (m n_int) k_int b_int
  have G_ist := ok_Ist F_ist B (PySem.W.mg_of X G aM) G_num (m n_num) k_num b_num
  have G_ics := ok_Ics F_ics B G_ist (m n_ist) k_ist b_ist
  have G_icr := ok_Icr F_icr B G_thr (m n_thr) k_thr b_thr G_num (m n_num) k_num b_num G_ics (m n_ics) k_ics b_ics
  have G_cnr := ok_Cnr F_cnr B G_icr (m n_icr) k_icr b_icr
  have G_hin := ok_Hin (CC := CH) F_hin B ccH n1H n2H G_csz (m n_csz) k_csz b_csz G_cnr (m n_cnr) k_cnr b_cnr
  have N : Ch2 P w K mg base CH := { pW := _, pR := _, pK := _, gW := _, gR := _, gK := _, gN := _, fC := _, fW := _, fR := _, fK := _, fN := _, dC := _, aW := aP_W, aR := aP_R, aK := aP_K, aN := ⟨n_hln, i_hln⟩, bW := b_W, bR := b_R, bK := b_K, bN := b_hln, oW := ok_Hwd F_W B ccH n1H, oR := ok_Hrw F_R B ccH n2H, oK := ok_Hct F_K B ccH n1H, oN := ok_Hln F_hln B ccH n2H, cc := ccH, mC := ⟨mCH, n_hin, i_hin, kCH⟩, oC := G_hin, gC := m aCH, bC := b_hin }
  have U : ChQ P w K mg base CH := { fQ := _, dQ := _, oQ := ok_Heq F_heq B (m aCH) ccH n1H n2H itH, eq := n_heq, eqF := i_heq, bQ := b_heq }
  have G_stc := ok_Stc F_stc B G_ply (m n_ply) k_ply b_ply
  have G_pln := ok_Pln F_pln B G_ply (m n_ply) k_ply b_ply G_yar (m n_yar) k_yar b_yar G_stc (m n_stc) k_stc b_stc
  have G_sum := ok_Sum (P := P) (w := w) (base := base) F_sum B
  have G_drw := ok_Drw (P := P) (w := w) (base := base) F_drw B
  have G_cat := ok_Cat F_cat B Cl N G_csz (m n_csz) k_csz b_csz G_drw (m n_drw) k_drw b_drw
  have G_lat := ok_Lat F_lat B N G_csz (m n_csz) k_csz b_csz G_num (m n_num) k_num b_num G_int (m n_int) k_int b_int
  have G_rom := ok_Rom F_rom B G_sum (m n_sum) k_sum b_sum
  have G_intV := ok_IntV (P := P) (w := w) (base := base) F_int B itH nkH
  have G_numV := ok_NumV F_num B G_intV (m n_int) k_int b_int
  have G_cszV := ok_CszV F_csz B I XS G_intV (m n_int) k_int b_int
  have G_catR := ok_CatR F_cat B N G_cszV (m n_csz) k_csz b_csz G_drw (m n_drw) k_drw b_drw
  have G_latR := ok_LatR F_lat B I XQ N G_cszV (m n_csz) k_csz b_csz G_numV (m n_num) k_num b_num G_intV (m n_int) k_int b_int
  have G_catV := (G_cat.liftC (L2N.CX P w)).orC G_catR
  have G_latV := ((G_lat.liftC (L2N.CX P w)).mono (show 3 ≤ 8 by decide)).orC (G_latR.mono (show 4 ≤ 8 by decide))
  have G_lii := ok_Lii (P := P) (w := w) (base := base) F_lii B itH nkH
  have G_jue := ok_Jue F_jue B G_lii (m n_lii) k_lii b_lii
  have G_rfu := ok_Rfu F_rfu B T XS XQ G_catV (m n_cat) k_cat b_cat G_latV (m n_lat) k_lat b_lat
  have M1 := mat_step 0 F_mat B (m n_mat) b_mat (ok_never (P := P) (w := w) (K := K) (mg := mg) (base := base) (k := 0) (f := f_mat))
  have M2 := mat_step 1 F_mat B (m n_mat) b_mat M1
  have M3 := mat_step 2 F_mat B (m n_mat) b_mat M2
  have M4 := mat_step 3 F_mat B (m n_mat) b_mat M3
  have M5 := mat_step 4 F_mat B (m n_mat) b_mat M4
  have M6 := mat_step 5 F_mat B (m n_mat) b_mat M5
  have S1 := mat_sim 0 F_mat B (m n_mat) b_mat itH nkH U M1 mat_sim0
  have S2 := mat_sim 1 F_mat B (m n_mat) b_mat itH nkH U M2 S1
  have S3 := mat_sim 2 F_mat B (m n_mat) b_mat itH nkH U M3 S2
  have S4 := mat_sim 3 F_mat B (m n_mat) b_mat itH nkH U M4 S3
  have S5 := mat_sim 4 F_mat B (m n_mat) b_mat itH nkH U M5 S4
  have S6 := mat_sim 5 F_mat B (m n_mat) b_mat itH nkH U M6 S5
  exact ok_Law F_law B N G_cre (m n_cre) k_cre b_cre G_pln (m n_pln) k_pln b_pln G_rom (m n_rom) k_rom b_rom G_ply (m n_ply) k_ply b_ply G_rfu (m n_rfu) k_rfu b_rfu G_jue (m n_jue) k_jue b_jue S6 (m n_mat) k_mat b_mat
theorem walk {l : PySem.W.OpenLaw} {q : Program} {loose : List Str} {XP : (Str → Option Value) → Heap → Prop} {YP : World → Heap → Prop} {d : DefRec} {K : Params → PySem.W.Frag} (hn : l.most = some 63) (hdf : d.params.defaults = [])
    (hY : ∀ (w : World) (h : Heap), YP w h → (K w.params).In h)
    (F : ∀ (w : World) (mg : Str → Option Value) (fa : Addr) (h : Heap), (K w.params).In h → h.Ns mainGlobals mg → mg d.name = some (.ref fa) →
      ∃ fd : FuncData, (∀ (s : Shared) (u : Value), BindsTo s fd ⟨[u], []⟩ [("script", u)]) ∧ ∀ base : Heap, (K w.params).In base → base.Ns mainGlobals mg → FnOk l.prog w (K w.params) mg base CX0 10 fa fd ["script"] (spLaw (K w.params))) :
    PySem.W.WalkO q loose XP YP l.row.toRowW d [] (fun f vs => PySem.call f vs) :=
  L2.walk_of (n := 63) (k := 10) (x := "script") (CX := fun _ => CX0) (sp := fun w => spLaw (K w.params)) hn (by decide) hdf ⟨rfl, by decide, by decide⟩ hY F (fun _ _ a ns hl _ hS => ⟨a, ns, rfl, hS, hl, fun _ => rfl⟩) fun _ _ _ _ _ z => z
end T6
open PySem PySem.W PyProof.Rows
set_option maxRecDepth 100000 in
set_option maxHeartbeats 0 in
theorem PySem.Challenge.cw_runsdown_k26_sizes_and_places_refused_holds : PySem.Challenge.rw_runsdown_k26_sizes_and_places_refused.Holds := by
  w_on; o_law; k_head; (case hw => w_witness2)
  k_fill
  refine T6.walk (l := PySem.Challenge.rw_runsdown_k26_sizes_and_places_refused) rfl rfl (fun w h Y => PySem.W.kIn_of Y) ?F
  case F =>
    intro w mg fa h KX G hmg
    refine' T6.all_mk KX G hmg ?aR ?aF ?xF ?aL ?xL ?aS ?xS ?aQ ?xQ ?aC ?mC ?kC ?aT ?aCH ?mCH ?kCH ?aM ?n_ply ?n_cre ?n_int ?n_num ?n_thr ?n_wro ?n_par ?n_loo ?n_ckl ?n_ckf ?n_yar ?n_mat ?n_csz ?n_ist ?n_ics ?n_icr ?n_cnr ?n_stc ?n_pln ?n_sum ?n_drw ?n_cat ?n_lat ?n_rom ?n_lii ?n_jue ?n_rfu ?n_law ?n_ini ?i_ini ?n_clo ?i_clo ?n_len ?i_len ?n_hin ?i_hin ?n_hln ?i_hln ?n_heq ?i_heq ?n_gl ?q_gl ?n_gf ?q_gf ?n_W ?q_W ?n_R ?q_R ?n_K ?q_K ?l_ply ?c_ply ?k_ply ?l_cre ?c_cre ?k_cre ?l_int ?c_int ?k_int ?l_num ?c_num ?k_num ?l_thr ?c_thr ?k_thr ?l_wro ?c_wro ?k_wro ?l_par ?c_par ?k_par ?l_loo ?c_loo ?k_loo ?l_ckl ?c_ckl ?k_ckl ?l_ckf ?c_ckf ?k_ckf ?l_yar ?c_yar ?k_yar ?l_mat ?c_mat ?k_mat ?l_csz ?c_csz ?k_csz ?l_ist ?c_ist ?k_ist ?l_ics ?c_ics ?k_ics ?l_icr ?c_icr ?k_icr ?l_cnr ?c_cnr ?k_cnr ?l_stc ?c_stc ?k_stc ?l_pln ?c_pln ?k_pln ?l_sum ?c_sum ?k_sum ?l_drw ?c_drw ?k_drw ?l_cat ?c_cat ?k_cat ?l_lat ?c_lat ?k_lat ?l_rom ?c_rom ?k_rom ?l_lii ?c_lii ?k_lii ?l_jue ?c_jue ?k_jue ?l_rfu ?c_rfu ?k_rfu ?l_law ?c_law ?k_law ?l_ini ?c_ini ?k_ini ?l_clo ?c_clo ?k_clo ?l_len ?c_len ?k_len ?l_hin ?c_hin ?k_hin ?l_hln ?c_hln ?k_hln ?l_heq ?c_heq ?k_heq ?l_gl ?c_gl ?k_gl ?l_gf ?c_gf ?k_gf ?l_W ?c_W ?k_W ?l_R ?c_R ?k_R ?l_K ?c_K ?k_K ?hF ?hL ?hS ?hQ ?hC ?hP ?hN ?hCH ?hKH ?hT
    (case aR => k_is)
    (case aF => k_is)
    (case xF => (refine' T6.clse_mk ?zxe ?zxr; (case zxe => k_is); (case zxr => decide +kernel)))
    (case aL => k_is)
    (case xL => (refine' T6.clse_mk ?zxe ?zxr; (case zxe => k_is); (case zxr => decide +kernel)))
    (case aS => k_is)
    (case xS => (refine' T6.clse_mk ?zxe ?zxr; (case zxe => k_is); (case zxr => decide +kernel)))
    (case aQ => k_is)
    (case xQ => (refine' T6.clse_mk ?zxe ?zxr; (case zxe => k_is); (case zxr => decide +kernel)))
    (case aC => k_is)
    (case mC => k_is)
    (case kC => k_is)
    (case aT => k_is)
    (case aCH => k_is)
    (case mCH => k_is)
    (case kCH => k_is)
    (case aM => k_is)
    (case n_ply => k_is)
    (case n_cre => k_is)
    (case n_int => k_is)
    (case n_num => k_is)
    (case n_thr => k_is)
    (case n_wro => k_is)
    (case n_par => k_is)
    (case n_loo => k_is)
    (case n_ckl => k_is)
    (case n_ckf => k_is)
    (case n_yar => k_is)
    (case n_mat => k_is)
    (case n_csz => k_is)
    (case n_ist => k_is)
    (case n_ics => k_is)
    (case n_icr => k_is)
    (case n_cnr => k_is)
    (case n_stc => k_is)
    (case n_pln => k_is)
    (case n_sum => k_is)
    (case n_drw => k_is)
    (case n_cat => k_is)
    (case n_lat => k_is)
    (case n_rom => k_is)
    (case n_lii => k_is)
    (case n_jue => k_is)
    (case n_rfu => k_is)
    (case n_law => k_is)
    (case n_ini => k_is)
    (case i_ini => k_is)
    (case n_clo => k_is)
    (case i_clo => k_is)
    (case n_len => k_is)
    (case i_len => k_is)
    (case n_hin => k_is)
    (case i_hin => k_is)
    (case n_hln => k_is)
    (case i_hln => k_is)
    (case n_heq => k_is)
    (case i_heq => k_is)
    (case n_gl => k_is)
    (case q_gl => k_is)
    (case n_gf => k_is)
    (case q_gf => k_is)
    (case n_W => k_is)
    (case q_W => k_is)
    (case n_R => k_is)
    (case q_R => k_is)
    (case n_K => k_is)
    (case q_K => k_is)
    (case l_ply => k_is)
    (case c_ply => k_is)
    (case k_ply => k_is)
    (case l_cre => k_is)
    (case c_cre => k_is)
    (case k_cre => k_is)
    (case l_int => k_is)
    (case c_int => k_is)
    (case k_int => k_is)
    (case l_num => k_is)
    (case c_num => k_is)
    (case k_num => k_is)
    (case l_thr => k_is)
    (case c_thr => k_is)
    (case k_thr => k_is)
    (case l_wro => k_is)
    (case c_wro => k_is)
    (case k_wro => k_is)
    (case l_par => k_is)
    (case c_par => k_is)
    (case k_par => k_is)
    (case l_loo => k_is)
    (case c_loo => k_is)
    (case k_loo => k_is)
    (case l_ckl => k_is)
    (case c_ckl => k_is)
    (case k_ckl => k_is)
    (case l_ckf => k_is)
    (case c_ckf => k_is)
    (case k_ckf => k_is)
    (case l_yar => k_is)
    (case c_yar => k_is)
    (case k_yar => k_is)
    (case l_mat => k_is)
    (case c_mat => k_is)
    (case k_mat => k_is)
    (case l_csz => k_is)
    (case c_csz => k_is)
    (case k_csz => k_is)
    (case l_ist => k_is)
    (case c_ist => k_is)
    (case k_ist => k_is)
    (case l_ics => k_is)
    (case c_ics => k_is)
    (case k_ics => k_is)
    (case l_icr => k_is)
    (case c_icr => k_is)
    (case k_icr => k_is)
    (case l_cnr => k_is)
    (case c_cnr => k_is)
    (case k_cnr => k_is)
    (case l_stc => k_is)
    (case c_stc => k_is)
    (case k_stc => k_is)
    (case l_pln => k_is)
    (case c_pln => k_is)
    (case k_pln => k_is)
    (case l_sum => k_is)
    (case c_sum => k_is)
    (case k_sum => k_is)
    (case l_drw => k_is)
    (case c_drw => k_is)
    (case k_drw => k_is)
    (case l_cat => k_is)
    (case c_cat => k_is)
    (case k_cat => k_is)
    (case l_lat => k_is)
    (case c_lat => k_is)
    (case k_lat => k_is)
    (case l_rom => k_is)
    (case c_rom => k_is)
    (case k_rom => k_is)
    (case l_lii => k_is)
    (case c_lii => k_is)
    (case k_lii => k_is)
    (case l_jue => k_is)
    (case c_jue => k_is)
    (case k_jue => k_is)
    (case l_rfu => k_is)
    (case c_rfu => k_is)
    (case k_rfu => k_is)
    (case l_law => k_is)
    (case c_law => k_is)
    (case k_law => k_is)
    (case l_ini => k_is)
    (case c_ini => k_is)
    (case k_ini => k_is)
    (case l_clo => k_is)
    (case c_clo => k_is)
    (case k_clo => k_is)
    (case l_len => k_is)
    (case c_len => k_is)
    (case k_len => k_is)
    (case l_hin => k_is)
    (case c_hin => k_is)
    (case k_hin => k_is)
    (case l_hln => k_is)
    (case c_hln => k_is)
    (case k_hln => k_is)
    (case l_heq => k_is)
    (case c_heq => k_is)
    (case k_heq => k_is)
    (case l_gl => k_is)
    (case c_gl => k_is)
    (case k_gl => k_is)
    (case l_gf => k_is)
    (case c_gf => k_is)
    (case k_gf => k_is)
    (case l_W => k_is)
    (case c_W => k_is)
    (case k_W => k_is)
    (case l_R => k_is)
    (case c_R => k_is)
    (case k_R => k_is)
    (case l_K => k_is)
    (case c_K => k_is)
    (case k_K => k_is)
    (case hF => kernel_rfl)
    (case hL => kernel_rfl)
    (case hS => kernel_rfl)
    (case hQ => kernel_rfl)
    (case hC => kernel_rfl)
    (case hP => kernel_rfl)
    (case hN => kernel_rfl)
    (case hCH => kernel_rfl)
    (case hKH => kernel_rfl)
    (case hT => kernel_rfl)
