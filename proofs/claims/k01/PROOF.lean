import PyProof.Rows.All
import Wide.All
import OpenK.AllK
import Wide.FinOn
import HandS.ForExc
import HandS.HotCalls
import HandS.ExcInit
import HandS.ExcIs
import HandS.ExcField
import KE.KIsAll
import PyProof.Rows.CountFlat
import HandS.ExcCtx
import OpenK.KOps
import HandS.MakeKwOnly
import HandS.IsInst
import HandS.Ends
import PyProof.ReprRoads
import HandS.Set
import HandS.SetBool
import HandS.Strs
import PyProof.Rows.SortStr
import PyProof.Rows.SortShellAny
import HandS.Comp
import HandS.Walk
import HandS.Iter
import HandS.ForMost
import HandS.Wide
import HandS.RaiseMore
import PyProof.ReprLen
import PyProof.CallStr
import HandS.Conv
import HandS.Zip
import HandS.TupAny
import HandS.SortInts
import HandS.Property
import HandS.OwnEq
import PySem.Challenge.RW_runsdown_k01_cloths_made
set_option Elab.async false
set_option linter.all false
set_option maxRecDepth 100000
set_option maxHeartbeats 4000000
/-! An own error class over ValueError, called with positional values and keywords: the model's own steps. -/
namespace MXa
open PySem PySem.W PySem.Calls PyProof.Rows PySem.HandSPX
open Builtin Builtin.ObjectAttr
section
variable {M : Model} {prog : Program} {w : World} {A : Around} {E : Value → Shared → Prop} {R : Result → Shared → Prop} {h : Heap} {g : Array GenState} {d : Drawn} {t : Nat} {os : OsState}
variable {nm q : Str} {C N : Addr} {bs bm bmB : List Value} {hdct : Bool} {sn : List Str} {sub : List Value} {ab : Bool} {col : Option Bool} {dd : Option Addr} {k0 k1 k2 k3 k5 : Option Value} {B newId initId : String}

theorem newCheck (F : ExcBaseFacts B newId initId bmB) (hT : ∀ X : String, bm.contains (.type X) = bmB.contains (.type X)) {ps : List Value} {kw : List (Str × Value)} {Q : Unit → Shared → Prop}
    (cl : h.get? C = some (excClassObj nm q C N bs bm hdct sn sub ab col dd k0 k1 k2 k3 k5 newId)) (go : Q () ⟨h, g, d, t, os⟩) : wpAny M A (checkBuiltinCall newId ⟨.ref C :: ps, kw⟩) Q E ⟨h, g, d, t, os⟩ := by
  have has : (Value.ref C :: bm).contains (.type B) = true := by
    rw [List.contains_cons, hT, F.hasB, Bool.or_true]
  have star := F.noStar
  simp only [checkBuiltinCall, F.newKind, F.newSplit, F.newRow]
  repeat (first
    | refine wpAny_loadPart_at cl ?_
    | (refine wpAny_isSubtype_exc cl ?_; rw [has])
    | refine wpAny_staticBase_exc cl ?_
    | refine wpAny_madeBy_exc cl ?_
    | simp only [bne_self_eq_false, Bool.false_eq_true, if_false]
    | wp_step)
  all_goals first | exact go | trace_state

theorem newBody (F : ExcBaseFacts B newId initId bmB) (hT : ∀ X : String, bm.contains (.type X) = bmB.contains (.type X)) {ps : List Value} {kw : List (Str × Value)}
    (cl : h.get? C = some (excClassObj nm q C N bs bm hdct sn sub ab col dd k0 k1 k2 k3 k5 newId)) (short : ps.length ≤ sizeLine)
    (go : R (.ok (.ret (.ref (h.objs.size + 1)))) ⟨(h.push (W.kdv_tup ps)).push (excO C h.objs.size), g, d, t, os⟩) :
    codeAny (model prog w) A (.builtin newId ⟨.ref C :: ps, kw⟩) R ⟨h, g, d, t, os⟩ := by
  have es := F.ends
  have yB : (Value.ref C :: bm).contains (.type B) = true := by
    rw [List.contains_cons, hT, F.hasB, Bool.or_true]
  have nA : (Value.ref C :: bm).contains (.type "AttributeError") = false := by
    rw [List.contains_cons, hT, F.noAttr]
    rfl
  have nN : (Value.ref C :: bm).contains (.type "NameError") = false := by
    rw [List.contains_cons, hT, F.noName]
    rfl
  refine codeAny_builtinAt F.entry ?_
  unfold Builtin.«BaseException.__new__»
  refine PySem.wpAt_bind ?_
  show PySem.wpAt _ _ _ (stack >>= _) _ _ _
  refine PySem.wpAt_bind (PySem.wpAt_stack fun z zs => PySem.wpAt_of_wpAny ?_)
  wp_walk
  refine PySem.wpAt_of_wpAny ?_
  rw [F.owner]
  repeat (first
    | with_reducible refine wpAny_madeHere_exc F.canon cl ?_
    | with_reducible refine wpAny_loadPart_at cl ?_
    | (with_reducible refine wpAny_isSubtype_exc cl ?_; first | rw [yB] | rw [nA] | rw [nN])
    | wp_step)
  show R _ _
  rw [Heap.size_push]
  exact go

theorem typeCall (F : ExcBaseFacts B newId initId bmB) (hT : ∀ X : String, bm.contains (.type X) = bmB.contains (.type X)) {ps : List Value} {kw : List (Str × Value)} {fI : Addr} {Q : Fin → Shared → Prop}
    (cl : h.get? C = some (excClassObj nm q C N bs bm hdct sn sub ab col dd k0 k1 k2 k3 k5 newId)) (short : ps.length ≤ sizeLine)
    (fi : W.Looks (model prog w) h (typeLookup (.ref C) "__init__") (some (.ref fI))) (bi : ∀ self, W.Looks (model prog w) h (bindSpecial (.ref fI) self) (.ref fI, [self]))
    (go : codeAny (model prog w) A (.call (.ref fI) ⟨.ref (h.objs.size + 1) :: ps, kw⟩)
      (fun r s' => match r with | .ok (.ret v) => v = .none ∧ Q (.done (.ret (.ref (h.objs.size + 1)))) s' | .ok _ => False | .error e => E e s')
      ⟨(h.push (W.kdv_tup ps)).push (excO C h.objs.size), g, d, t, os⟩) :
    wpAny (model prog w) A (Builtin.«type.__call__» ⟨.ref C :: ps, kw⟩) Q E ⟨h, g, d, t, os⟩ := by
  repeat (first
    | with_reducible refine wpAny_loadPart_at cl ?_
    | with_reducible refine wpAny_madeBy_exc cl ?_
    | wp_step)
  refine codeAny_call_builtin_code (Code.quiet_builtin _ F.quiet) (newCheck F hT cl ?_)
  refine newBody F hT cl short ?_
  show wpAny _ _ _ _ _ _
  have up : ∀ b o, h.get? b = some o → ((h.push (W.kdv_tup ps)).push (excO C h.objs.size)).get? b = some o := fun b o e =>
    Heap.get?_push_of_some _ (Heap.get?_push_of_some _ e)
  have cl1 := up _ _ cl
  have at1 : ((h.push (W.kdv_tup ps)).push (excO C h.objs.size)).get? (h.objs.size + 1) = some (excO C h.objs.size) := by
    heap_get
  have yC : (Value.ref C :: bm).contains (.ref C) = true := by simp
  have fi1 := fi.keeps up
  have bi1 := (bi (.ref (h.objs.size + 1))).keeps up
  unfold isInstance
  repeat (first
    | with_reducible refine wpAny_loadPart_at at1 ?_
    | (with_reducible refine wpAny_isSubtype_exc cl1 ?_; rw [yC])
    | wp_step)
  show wpAny _ _ (typeLookup (.ref C) _) _ _ _
  refine fi1.at (wpAny_holding (wpAny_bind (bi1.at (wpAny_bind (wpAny_call (codeAny_mono go fun r s' z => ?_))))))
  rcases r with e | (v | _ | _ | _) <;> first | exact z | exact z.elim | skip
  obtain ⟨rfl, z⟩ := z
  first
    | exact wpAny_pure (wpAny_pure z)
    | (wp_walk; exact z)

theorem typeCallCheck {ps : List Value} {kw : List (Str × Value)} {Q : Unit → Shared → Prop} (cl : h.get? C = some (excClassObj nm q C N bs bm hdct sn sub ab col dd k0 k1 k2 k3 k5 newId))
    (go : Q () ⟨h, g, d, t, os⟩) : wpAny M A (checkBuiltinCall "type.__call__" ⟨.ref C :: ps, kw⟩) Q E ⟨h, g, d, t, os⟩ := by
  have f3 := tc_sub
  have ty : (⟨h, g, d, t, os⟩ : Shared).TypeIs (.ref C) "type" := ⟨_, cl, rfl⟩
  simp only [checkBuiltinCall, tc_kind, tc_split]
  repeat (any_goals (first
    | assumption
    | with_reducible refine wpAny_loadPart_at cl ?_
    | with_reducible refine wpAny_onRaise ?_
    | with_reducible refine wpAny_map ?_
    | wp_step))
  all_goals trace_state

theorem callOwn (F : ExcBaseFacts B newId initId bmB) (hT : ∀ X : String, bm.contains (.type X) = bmB.contains (.type X)) {ps : List Value} {kw : List (Str × Value)} {fI : Addr}
    (cl : h.get? C = some (excClassObj nm q C N bs bm hdct sn sub ab col dd k0 k1 k2 k3 k5 newId)) (short : ps.length ≤ sizeLine)
    (fi : W.Looks (model prog w) h (typeLookup (.ref C) "__init__") (some (.ref fI))) (bi : ∀ self, W.Looks (model prog w) h (bindSpecial (.ref fI) self) (.ref fI, [self]))
    (go : codeAny (model prog w) (A.under (.builtin "type.__call__" ⟨.ref C :: ps, kw⟩)) (.call (.ref fI) ⟨.ref (h.objs.size + 1) :: ps, kw⟩) (W.InitBack (h.objs.size + 1) R)
      ⟨(h.push (W.kdv_tup ps)).push (excO C h.objs.size), g, d, t, os⟩) :
    codeAny (model prog w) A (.call (.ref C) ⟨ps, kw⟩) R ⟨h, g, d, t, os⟩ := by
  have f1 := tc_lookup
  have f2 := tc_bind (.ref C)
  have ty : (⟨h, g, d, t, os⟩ : Shared).TypeIs (.ref C) "type" := ⟨_, cl, rfl⟩
  refine codeAny_of_tree ?_
  show wpAny _ _ (callAny (.ref C) _) _ _ _
  repeat (any_goals (first
    | assumption
    | with_reducible refine wpAny_loadPart_at cl ?_
    | wp_step))
  refine ⟨rfl, ?_⟩
  refine codeAny_call_builtin_at (Code.quiet_builtin _ (by decide +kernel)) entry_typeCall (typeCallCheck cl (typeCall F hT cl short fi bi ?_))
  refine codeAny_mono go fun r s' z => ?_
  rcases r with e | (v | _ | _ | _) <;> exact z
end
end MXa
/-! Own error classes with one inherited __init__ that stores one field: made, raised, read, asked. -/
namespace MXb
open PySem PySem.Spec PyProof.Rows L2
abbrev St := L2.St
/-- what the written part says of an error class at C whose __init__ stands at fI and stores the field fl -/
structure XC (K : PySem.W.Frag) (mg : Str → Option Value) (fI C : Addr) (nm fl : Str) : Prop where
  gC : mg nm = some (.ref C)
  ox : OexC K C
  ini : PySem.W.findIn K (.ref C) "__init__" = some (some (.ref fI))
  tyI : PySem.W.typeIn K (.ref fI) = some (.type "function")
  noF : PySem.W.findIn K (.ref C) fl = some none
  xf : XfC K C
  ec : ExcC K C
/-- __init__(self, fl): self.fl = fl -/
def spInit (K : PySem.W.Frag) (fl : Str) : Sp := fun vs H Q _ => ∃ (e C : Addr) (y : V), vs = [.ref e, y] ∧ OexC K C ∧ PySem.W.findIn K (.ref C) fl = some none ∧ H e = some (exo e C none) ∧
  ∀ d, H d = none → d ≠ e → Q .non (upd (upd H d (exd d [(fl, y)])) e (exo e C (some d)))
/-- how the one value comes to __init__: positional (kw none), or by its name -/
structure Bind1 (K : PySem.W.Frag) (fd : FuncData) (fl : Str) : Prop where
  pos : ∀ (s : Shared) (a u : Value), K.In s.heap → BindsTo s fd ⟨[a, u], []⟩ ((["self", fl] : List Str).zip [a, u])
  kw : ∀ (s : Shared) (a u : Value), K.In s.heap → BindsTo s fd ⟨[a], [(fl, u)]⟩ ((["self", fl] : List Str).zip [a, u])
/-- the abstract heap behind C(y): the new error at a, its dict at d -/
def hMade (H : Hp) (a d C : Addr) (fl : Str) (y : V) : Hp := upd (upd (upd H a (exo a C none)) d (exd d [(fl, y)])) a (exo a C (some d))
section
variable {X : Cx} {fI C : Addr} {nm fl : Str} {k : Nat} {fd : FuncData}
theorem run_x {pins : List (Addr × Obj)} {σ : St} {H : Hp} {s : Shared} {y : V} {u : Value} {ps : List Value} {kw : List (Str × Value)} {R : Value → Shared → Prop} (T : XC X.K X.mg fI C nm fl)
    (F1 : FnOk X.prog X.w X.K X.mg X.base CX0 k fI fd ["self", fl] (spInit X.K fl)) (hr : Room (k + 1) X.A) (I : Inv X pins σ H s) (r : RelV y u) (short : ps.length ≤ sizeLine)
    (bi : ∀ (s : Shared) (a : Value), X.K.In s.heap → BindsTo s fd ⟨a :: ps, kw⟩ ((["self", fl] : List Str).zip [a, u]))
    (fin : ∀ (s2 : Shared) (d : Addr), H (s.heap.objs.size + 1) = none → H d = none → d ≠ s.heap.objs.size + 1 → s2.os = s.os → AllBare s2.gens →
      Inv X pins σ (hMade H (s.heap.objs.size + 1) d C fl y) s2 →
      Un (frs X.stack) [] (upd H (s.heap.objs.size + 1) (exo (s.heap.objs.size + 1) C none)) (hMade H (s.heap.objs.size + 1) d C fl y) ((s.heap.push (PySem.W.kdv_tup ps)).push (PySem.HandSPX.excO C s.heap.objs.size)) s2.heap →
      HOk X.prog X.w (hMade H (s.heap.objs.size + 1) d C fl y) s2.heap → R (.ref (s.heap.objs.size + 1)) s2) :
    wpAny (model X.prog X.w) X.A (call (.ref C) ps kw) R X.xe s := by
  obtain ⟨n0, q0, N0, bs0, bm, sn0, sub0, ab0, col0, dd0, k0, k1, k2, k3, k5, hC, hbm⟩ := T.ox.cls
  obtain ⟨hp, g, dr, tk, os⟩ := s
  have above : hp.objs.size ≤ hp.objs.size + 1 := Nat.le_succ _
  have free : H (hp.objs.size + 1) = none := I.hok.fresh above
  have up : ∀ b o, hp.get? b = some o → ((hp.push (PySem.W.kdv_tup ps)).push (PySem.HandSPX.excO C hp.objs.size)).get? b = some o := fun b o e =>
    Heap.get?_push_of_some _ (Heap.get?_push_of_some _ e)
  have at1 : ((hp.push (PySem.W.kdv_tup ps)).push (PySem.HandSPX.excO C hp.objs.size)).get? (hp.objs.size + 1) = some (PySem.HandSPX.excO C hp.objs.size) := by
    heap_get
  have J : Inv X pins σ (upd H (hp.objs.size + 1) (exo (hp.objs.size + 1) C none)) ⟨(hp.push (PySem.W.kdv_tup ps)).push (PySem.HandSPX.excO C hp.objs.size), g, dr, tk, os⟩ :=
    Inv.laid (I := I) (t' := tk) (a := hp.objs.size + 1) (o := exo (hp.objs.size + 1) C none) (h' := (hp.push (PySem.W.kdv_tup ps)).push (PySem.HandSPX.excO C hp.objs.size)) up above (exo_ok at1)
  have rr : Vals [V.ref (hp.objs.size + 1), y] [Value.ref (hp.objs.size + 1), u] := .cons rfl (.cons r .nil)
  refine wpAny_call (MXa.callOwn F.excBase_ValueError (fun Y => PySem.HandSPX.refsVE_contains Y bm hbm) (I.kIn _ _ hC) short (PySem.W.looks_findIn I.kIn T.ini) (fun self => PySem.W.bind_fn I.kIn self T.tyI)
    (codeAny_mono (F1.run _ X.stack _ _ ⟨Value.ref (hp.objs.size + 1) :: ps, kw⟩ [Value.ref (hp.objs.size + 1), u] [V.ref (hp.objs.size + 1), y]
      (fun v H2 => v = .non ∧ ∃ d, H d = none ∧ d ≠ hp.objs.size + 1 ∧ H2 = hMade H (hp.objs.size + 1) d C fl y) E0 (hr.make C ps kw) (J.env0.make C ps kw) (bi _ _ J.kIn) rr
      ⟨hp.objs.size + 1, C, y, rfl, T.ox, T.noF, upd_same, fun d nd ne => ⟨rfl, d, by rw [upd_ne ne] at nd; exact nd, ne, rfl⟩⟩) fun r2 s2 z => ?_))
  cases r2 with
  | error er => exact z.elim
  | ok fl2 =>
    cases fl2 with
    | ret v2 =>
      obtain ⟨v, H', I3, rv, ev, d, nd, ne, rfl⟩ := J.after z
      obtain ⟨v', H2', os2, bare2, un2, hok2, rv', ev', d', nd', ne', eH⟩ := z
      subst ev
      refine ⟨rv, ?_⟩
      subst eH
      have J2 := J.after (Q := fun v H2 => v = v' ∧ H2 = hMade H (hp.objs.size + 1) d' C fl y) ⟨v', _, os2, bare2, un2, hok2, rv', rfl, rfl⟩
      obtain ⟨_, _, I4, _, rfl, rfl⟩ := J2
      exact fin s2 d' free nd' ne' os2 bare2 I4 un2 hok2
    | next => exact False.elim z
    | brk => exact False.elim z
    | cont => exact False.elim z
end
end MXb
/-! The class of an error that has a dict of its own; isinstance of it. -/
namespace MXc
open PySem PySem.W PySem.Spec PySem.Calls PyProof.Rows
section
variable {prog : Program} {w : World} {A : Around} {E : Value → Shared → Prop} {s : Shared} {K : Frag} {x D : Addr} {ox : Obj} {od : Option Obj}
theorem found {C : Addr} {name : Str} {a g : Value} (c1 : (clsIn K C).isSome = true) (c2 : findIn K (.ref C) name = some (some a)) (c3 : specialIn K a "__get__" = some (some g)) (c4 : takesIn K a = some true) : findObj K C od name = some (.bind g a) := by
  obtain ⟨cd, e⟩ := Option.isSome_iff_exists.mp c1
  unfold findObj
  rw [e, Option.bind_some, c2, Option.bind_some]
  simp [c3, c4]
theorem askClass {Q : Option Value → Shared → Prop} (T : L2.ExcC K D) (X : K.In s.heap) (I : InstAt s.heap x ox D od) (go : Q (some (.ref D)) { s with toks := s.toks + 1 }) :
    wpAny (model prog w) A (getAttr? (.ref x) "__class__") Q E s := by
  have fo : findObj K D od "__class__" = some (.bind (.builtin "getset_descriptor.__get__") (.builtin "object.__class__")) :=
    found (by obtain ⟨cd, e, _⟩ := any_some T.hd; rw [e]; rfl) T.ha T.hn T.ht
  obtain ⟨hp, g, d, t, os⟩ := s
  have a0 := I.type (M := model prog w)
  have a1 := looks_findIn (M := model prog w) X T.hg
  have a2 := looks_findIn (M := model prog w) X T.hk
  have a3 := looks_find (M := model prog w) X I fo
  have below : Looks (model prog w) hp (isInstance (.ref x) (.type "BaseException")) true :=
    a0.andThen (looks_subIn X T.hs)
  have z2 : (Value.builtin "BaseException.__getattribute__" == Value.builtin "object.__getattribute__") = false := by
    decide +kernel
  have z1 : (onTheHeap (Value.ref D) && Value.builtin "BaseException.__getattribute__" == Value.builtin "object.__getattribute__") = false := by
    rw [z2]
    rfl
  have z0 : (false && onTheHeap (Value.builtin "BaseException.__getattribute__")) = false := rfl
  unfold getAttr? getAttrBy? getAttrBy
  refine wpAny_bind (wpAny_mkText (wpAny_bind (wpAny_attempt (wpAny_holding (wpAny_bind (a0.at (wpAny_bind (a1.at ?_))))))))
  show wpAny _ _ (if (onTheHeap (Value.ref D) && Value.builtin "BaseException.__getattribute__" == Value.builtin "object.__getattribute__") = true then _ else _) _ _ _
  rw [z1]
  rw [if_neg Bool.false_ne_true]
  unfold getAttrByItsOwn hookBefore
  refine wpAny_bind ?_
  rw [if_pos (show onTheHeap (Value.ref D) = true from rfl)]
  refine a2.at (wpAny_bind (wpAny_attempt (wpAny_holding ?_)))
  unfold callGetattribute
  rw [z0]
  rw [if_neg Bool.false_ne_true]
  unfold boundAndCalled
  rw [PySem.F.excAttr_ValueError.ga.bind (.ref x)]
  refine wpAny_bind (wpAny_pure ?_)
  show wpAny _ _ (call (.builtin "BaseException.__getattribute__") [.ref x, .str "__class__" t]) _ _ _
  refine wpAny_call (codeAny_call_builtin PySem.F.excAttr_ValueError.ga.plain PySem.F.entry_bexc_ga ?_)
  refine @check_slot (model prog w) _ _ ⟨hp, g, d, t + 1, os⟩ "BaseException.__getattribute__" "BaseException" "__getattribute__" (.ref x)
    [.str "__class__" t] [] _ (by decide +kernel) (by decide +kernel) below (PySem.F.args_bexc_ga (.ref x) (.str "__class__" t)) ?_
  unfold Builtin.«object.__getattribute__»
  refine wpAny_bind (wpAny_of_eq (a := ((Value.ref x : Value), [Value.str "__class__" t])) (by first | rfl | (simp only [slotArgs]; rfl)) ?_)
  refine wpAny_bind (wpAny_pure (wpAny_bind (a0.at (wpAny_bind (a3.at ?_)))))
  show wpAny _ _ (holding [Value.builtin "object.__class__"] (call (.builtin "getset_descriptor.__get__") [.builtin "object.__class__", .ref x, .ref D]) >>= ret) _ _ _
  refine wpAny_bind (wpAny_holding (wpAny_call (class_get (s := ⟨hp, g, d, t + 1, os⟩) (ox := ox) (od := od) X I T.hm (wpAny_pure ?_))))
  show wpAny _ _ (handedOut (.ref D)) _ _ _
  rw [handedOut_of (v := .ref D) rfl]
  first
    | exact wpAny_pure (wpAny_pure go)
    | exact wpAny_pure go
    | exact wpAny_pure (wpAny_bind (wpAny_pure (wpAny_pure go)))
theorem kit_err (T : L2.ExcC K D) : KitX K (.ref x) (.ref D) (fun h => InstAt h x ox D od) := by
  obtain ⟨cdD, hcD, _⟩ := any_some T.hd
  have at0 : ∃ c' d' cd' sl', K.lookup D = some ⟨c', d', .cls cd', sl'⟩ := by
    unfold clsIn at hcD
    split at hcD
    · rename_i c' d' cd' sl' ho
      exact ⟨_, _, _, _, ho⟩
    · cases hcD
  obtain ⟨c', d', cd', sl', ho⟩ := at0
  refine ⟨fun _ _ _ I => I.type, fun _ _ X _ => ?_, fun h tp dd its n sl X htp => ?_, fun X I k => askClass T X I k⟩
  · intro A' Q' E' s' k q
    unfold isType loadHead
    exact wpAny_bind (wpAny_loadPart (k _ _ (X _ _ ho)) (wpAny_pure q))
  · refine Bool.eq_false_iff.mpr fun q => ?_
    obtain rfl : D = tp := Value.ref.inj (beq_iff_eq.mp q)
    have z := (X _ _ ho).symm.trans htp
    cases z
end
end MXc
/-! Readings and rules: C(e) raised, C(e) and C(fl = e) as values, their field, a def that is handed the error of an except suite, isinstance there. -/
namespace MXd
open PySem PySem.Spec PyProof.Rows L2 MXb
abbrev St := L2.St
/-- raise C(e): the way out -/
def tMk1 (C : Addr) (fl : Str) (te : TE) : St → Hp → XK → Prop := fun σ H Q => te σ H fun v H1 => ∀ d, H1 d = none → Q (.ref C) (some d) (upd H1 d (.xd [(fl, v)]))
/-- C(e) as a value: the new error at a, its dict at d -/
def tMkV (C : Addr) (fl : Str) (te : TE) : TE := fun σ H Q => te σ H fun v H1 => ∀ a d, H1 a = none → H1 d = none → d ≠ a → Q (.ref a) (hMade H1 a d C fl v)
def tMkK (C : Addr) (fl : Str) (tk : TA) : TE := fun σ H Q => tk σ H fun vs H1 => ∃ v, vs = [v] ∧ ∀ a d, H1 a = none → H1 d = none → d ≠ a → Q (.ref a) (hMade H1 a d C fl v)
/-- e.fl, e an error that was just made -/
def tFx (K : PySem.W.Frag) (fl : Str) (te : TE) : TE := fun σ H Q => te σ H fun x H1 => ∃ (a C d : Addr) (fs : List (Str × V)) (v : V), x = .ref a ∧ XfC K C ∧ PySem.W.findIn K (.ref C) fl = some none ∧
  H1 a = some (exo a C (some d)) ∧ H1 d = some (exd d fs) ∧ fs.lookup fl = some v ∧ Q v H1
theorem made_end {H : Hp} {a d C : Addr} {fl : Str} {y : V} {o : HO} (na : H a = none) (ne : d ≠ a) : upd (del (hMade H a d C fl y) a) d o = upd H d o := by
  funext b
  by_cases hd : b = d
  · rw [hd, upd_same, upd_same]
  · rw [upd_ne hd, upd_ne hd]
    by_cases ha : b = a
    · rw [ha, del_same, na]
    · unfold hMade
      rw [del_ne ha, upd_ne ha, upd_ne hd, upd_ne ha]
theorem made_a {H : Hp} {a d C : Addr} {fl : Str} {y : V} : hMade H a d C fl y a = some (exo a C (some d)) := upd_same
theorem made_d {H : Hp} {a d C : Addr} {fl : Str} {y : V} (ne : d ≠ a) : hMade H a d C fl y d = some (exd d [(fl, y)]) := by
  unfold hMade
  rw [upd_ne ne, upd_same]
theorem made_o {H : Hp} {a d C : Addr} {fl : Str} {y : V} {b : Addr} {o : HO} (na : H a = none) (nd : H d = none) (e : H b = some o) : hMade H a d C fl y b = some o := by
  unfold hMade
  rw [upd_ne (ne_of_none e na), upd_ne (ne_of_none e nd), upd_ne (ne_of_none e na)]
  exact e
section
variable {X : Cx} {fI C : Addr} {nm fl : Str} {k : Nat} {fd : FuncData} {e : Expr} {te : TE} {tk : TA} {p pos kpos : Pos}
theorem pmk1 (T : XC X.K X.mg fI C nm fl) (F1 : FnOk X.prog X.w X.K X.mg X.base CX0 k fI fd ["self", fl] (spInit X.K fl)) (bd : Bind1 X.K fd fl) (hr : Room (k + 1) X.A) (hg : Gl X nm) (he : PE X e te)
    (hdb : (nm == ("__debug__" : Str)) = false := by decide) (hst : starEach [e] X.env = (false, eval e X.env) :: starEach [] X.env := by rfl) (hpl : (backTo pos (starEach [] X.env)).any (·.1) = false := by rfl) :
    L2N.PMk X (.Call (.Name nm p) [e] [] pos) (tMk1 C fl te) := by
  intro pins s σ H Q I h
  refine wpAny_Call_Name_kw (ld_glob I hg T.gC ?_ hdb)
  have ha : PA X [e] (tCons te tNil) := pa_cons he pa_nil hst
  refine PySem.W.callWith_K (h₀ := X.base) I.ok.mod.kin T.ox.kC (thn (ha.run pos pins s σ H (fun vs H1 => ∃ v, vs = [v] ∧ ∀ d, H1 d = none → Q (.ref C) (some d) (upd H1 d (.xd [(fl, v)])))
    I (show te σ H _ from ?_)) fun us s1 ⟨vs, H1, I1, r1, v, ev, q1⟩ => ⟨I1.kIn, ?_⟩) hst hpl
  · have imp : ∀ {Q1 Q2 : VK}, Q1 = Q2 → te σ H Q1 → te σ H Q2 := fun e z => e ▸ z
    refine imp ?_ h
    funext v H1
    exact propext ⟨fun z => ⟨v, rfl, z⟩, fun ⟨v', e', z⟩ => by cases e'; exact z⟩
  · subst ev
    obtain ⟨u, rfl, ru⟩ := r1.one
    refine run_x T F1 hr I1 ru (show 1 ≤ sizeLine by rw [sizeLine_eq]; decide) (fun s a X => bd.pos s a u X) fun s2 d na nd ne os2 bare2 I4 un2 hok2 => ?_
    obtain ⟨hp, g, dr, t, os⟩ := s1
    obtain ⟨h2, g2, d2, t2, os'⟩ := s2
    have up : ∀ b o, hp.get? b = some o → ((hp.push (PySem.W.kdv_tup [u])).push (PySem.HandSPX.excO C hp.objs.size)).get? b = some o := fun b o e =>
      Heap.get?_push_of_some _ (Heap.get?_push_of_some _ e)
    obtain ⟨t0, G, J, kG, ge, hoe, na2⟩ := mk_end0 (d2 := d2) (t2 := t2) I1 (Nat.le_succ _) up un2 hok2 os2 bare2 made_a (made_d ne) nd
    have q2 := q1 d nd
    rw [← made_end (C := C) (fl := fl) (y := v) na ne] at q2
    exact ⟨hp.objs.size + 1, _, _, ⟨G, g2, d2, t2, os'⟩, _, .ref C, some d, rfl, J, kG, ge, hoe, ⟨rfl, rfl, fun vs e => by cases e; rfl⟩, rfl, rfl, na2, rfl, bare2, raises_own T.ox.exC T.ox.tyC, q2⟩
theorem pe_mkv (T : XC X.K X.mg fI C nm fl) (F1 : FnOk X.prog X.w X.K X.mg X.base CX0 k fI fd ["self", fl] (spInit X.K fl)) (bd : Bind1 X.K fd fl) (hr : Room (k + 1) X.A) (hg : Gl X nm) (he : PE X e te)
    (hdb : (nm == ("__debug__" : Str)) = false := by decide) (hst : starEach [e] X.env = (false, eval e X.env) :: starEach [] X.env := by rfl) (hpl : (backTo pos (starEach [] X.env)).any (·.1) = false := by rfl) :
    PE X (.Call (.Name nm p) [e] [] pos) (tMkV C fl te) := by
  refine ⟨fun pins s σ H Q I h => ?_⟩
  refine wpAny_Call_Name_kw (ld_glob I hg T.gC ?_ hdb)
  have ha : PA X [e] (tCons te tNil) := pa_cons he pa_nil hst
  refine PySem.W.callWith_K (h₀ := X.base) I.ok.mod.kin T.ox.kC (thn (ha.run pos pins s σ H (fun vs H1 => ∃ v, vs = [v] ∧ ∀ a d, H1 a = none → H1 d = none → d ≠ a → Q (.ref a) (hMade H1 a d C fl v))
    I (show te σ H _ from ?_)) fun us s1 ⟨vs, H1, I1, r1, v, ev, q1⟩ => ⟨I1.kIn, ?_⟩) hst hpl
  · have imp : ∀ {Q1 Q2 : VK}, Q1 = Q2 → te σ H Q1 → te σ H Q2 := fun e z => e ▸ z
    refine imp ?_ h
    funext v H1
    exact propext ⟨fun z => ⟨v, rfl, z⟩, fun ⟨v', e', z⟩ => by cases e'; exact z⟩
  · subst ev
    obtain ⟨u, rfl, ru⟩ := r1.one
    exact run_x T F1 hr I1 ru (show 1 ≤ sizeLine by rw [sizeLine_eq]; decide) (fun s a X => bd.pos s a u X) fun s2 d na nd ne os2 bare2 I4 un2 hok2 => ⟨V.ref (s1.heap.objs.size + 1), _, I4, rfl, q1 _ d na nd ne⟩
theorem pe_mkK (T : XC X.K X.mg fI C nm fl) (F1 : FnOk X.prog X.w X.K X.mg X.base CX0 k fI fd ["self", fl] (spInit X.K fl)) (bd : Bind1 X.K fd fl) (hr : Room (k + 1) X.A) (hg : Gl X nm) {kws : List Keyword} (hk : PK X kws tk)
    (hall : (backToKw pos (keywordEach kws X.env)).all (·.1.isSome) = true := by rfl) (hks : (backToKw pos (keywordEach kws X.env)).filterMap (·.1) = [fl] := by rfl)
    (hdb : (nm == ("__debug__" : Str)) = false := by decide)
    (hpl : ((backTo pos (starEach [] X.env)).any (·.1) || (backToKw pos (keywordEach kws X.env)).any (·.1.isNone)) = false := by rfl) :
    PE X (.Call (.Name nm p) [] kws pos) (tMkK C fl tk) := by
  refine ⟨fun pins s σ H Q I h => ?_⟩
  refine wpAny_Call_Name_kw (ld_glob I hg T.gC ?_ hdb)
  refine PySem.W.callWith_KW0 (h₀ := X.base) I.ok.mod.kin T.ox.kC hall ?_ hpl
  refine thn (hk.run pos pins s σ H _ I h) fun ws s2 ⟨zs, H2, I2, rz, v, ev, q2⟩ => ⟨I2.kIn, ?_⟩
  subst ev
  obtain ⟨u, rfl, ru⟩ := rz.one
  rw [hks]
  exact run_x (ps := []) (kw := [(fl, u)]) T F1 hr I2 ru (by rw [sizeLine_eq]; decide) (fun s a X => bd.kw s a u X) fun s3 d na nd ne os2 bare2 I4 un2 hok2 => ⟨V.ref (s2.heap.objs.size + 1), _, I4, rfl, q2 _ d na nd ne⟩
theorem pe_fx (he : PE X e te) (hb : attributeBase e fl X.env (eval e X.env) = eval e X.env := by rfl) : PE X (.Attribute e fl pos) (tFx X.K fl te) := by
  refine ⟨fun pins s σ H Q I h => ?_⟩
  refine attr_of hb (thn (he.run pins s σ H _ I h) fun u s1 hh => ?_)
  obtain ⟨x, H1, I1, rx, a, C, d, fs, v, rfl, T, no, ea, ed, l, q⟩ := hh
  obtain rfl : u = Value.ref a := rx
  obtain ⟨t1, ho⟩ := exo_at I1.hok ea
  obtain ⟨mA, ns, rel⟩ := exd_at I1.hok ed
  obtain ⟨od, hod, lk⟩ := lookIn_ns ns
  obtain ⟨u, hu, ru⟩ := RelO.some_of (v := v) (o := mA fl) (by rw [← l]; exact rel fl)
  have J : PySem.W.InstAt s1.heap a { cls := .ref C, dict := some d, data := .fields #[.ref t1, .none, .none, .none, .bool false, .none] } C (some od) := ⟨ho, rfl, rfl, hod⟩
  exact HandSPX.exc_get I1.kIn J T.ga T.gg T.exC (PySem.W.findObj_own T.hdC no rfl (by rw [lk, hu])) (handed_of ru) ⟨v, H1, I1.tok _, ru, q⟩
end
end MXd
/-! A def that an except suite hands its error to. -/
namespace MXe
open PySem PySem.Spec PyProof.Rows L2 L2H
abbrev St := L2.St
/-- a pinned error of the class at C, its dict at d -/
structure ErrP (C d : Addr) (p : Addr × Obj) : Prop where
  z : Zc (.ref C) (some d) p.2
  fs : ∃ vs, p.2.data = .fields vs
/-- a def's promise where p is such an error: sp is told its place, its class, its dict -/
structure FnE (P : Program) (w : World) (K : PySem.W.Frag) (mg : Str → Option Value) (base : Heap) (k : Nat) (f : Addr) (fd : FuncData) (ps : List Str) (sp : Addr → Addr → Addr → Sp) : Prop where
  len : ∀ a C d vs H Q E, sp a C d vs H Q E → vs.length = ps.length
  run : ∀ (A : Around) (outer : List Env) (s : Shared) (H : Hp) (args : Args) (us : List Value) (vs : List V) (Q : VK) (E : XK) (p : Addr × Obj) (C d : Addr), RoomH k A → ErrP C d p → PinOk outer H s p →
    Env0 P w K mg base A outer s H → BindsTo s fd args (ps.zip us) → Vals vs us → sp p.1 C d vs H Q E → codeAny (model P w) A (.call (.ref f) args) (CR CX0 outer P w H s Q E) s
section
variable {P : Program} {w : World} {K : PySem.W.Frag} {mg : Str → Option Value} {base : Heap} {k : Nat} {f : Addr} {fd : FuncData} {N ps : List Str} {sp : Addr → Addr → Addr → Sp} {x qual : Str} {st : Stmt}
theorem _root_.L2.Fun.okE (F : Fun K x qual st f fd) (S : FnScope N ps (defScope st)) (len : ∀ a C d vs H Q E, sp a C d vs H Q E → vs.length = ps.length)
    (body : ∀ (cdv : Value) (A : Around) (outer : List Env) (s : Shared) (H : Hp) (vs : List V) (Q : VK) (E : XK) (p : Addr × Obj) (C d : Addr), ErrP C d p → RoomH k (A.deeper (envOfC qual (defScope st) s.heap.objs.size f cdv)) → sp p.1 C d vs H Q E →
      ∃ t, PSs (cxH CX0 P w K mg base N qual (defScope st) f cdv A outer s H E p) (defBody st) t ∧ t { nx := fun _ H' => Q .non H', rt := Q } (L2.start N vs) H) : FnE P w K mg base (k + 1) f fd ps sp := by
  obtain ⟨oc, od, kV, doc, pm, an, cdv, ct, osl, rfl, lk, hcd⟩ := F.ex
  constructor
  · exact len
  · intro A outer s H args us vs Q E p C d room ep pin e0 bi rel hsp
    have nl := len _ _ _ _ _ _ _ hsp
    have up : ∀ b o, base.get? b = some o → s.heap.get? b = some o := fun b o e => (e0.bs b o e).1
    have kin : K.In s.heap := e0.mod.kin.keeps up
    have kinds : ∀ y ∈ ps.zip us, (defScope st).names.lookup y.1 = some .local ∨ ((defScope st).names.lookup y.1 = some .cell ∧ ((cellsFrom (s.heap.objs.size + 1) (defScope st).names []).lookup y.1).isSome = true) := by
      rintro ⟨n, v⟩ hy
      rcases S.par n (List.of_mem_zip hy).1 with q | q
      · exact Or.inl q
      · exact Or.inr ⟨q, PySem.W.cellsFrom_some _ _ _ (Or.inl q)⟩
    refine codeAny_call_function room.depth (kin _ _ lk) rfl S.co S.gen rfl (PySem.W.codeRec_of kin hcd) (bi _ _ _ _ (wpAny_newFunctionEnv_cells S.kind kinds fun env eqv s1 ic => ?_))
    subst eqv
    obtain ⟨t, ht, hq⟩ := body cdv A outer s H vs Q E p C d ep (room.deeper _) hsp
    have J : Inv (cxH CX0 P w K mg base N qual (defScope st) f cdv A outer s H E p) [] (L2.start N vs) H s1 := inv_startH S pin e0 nl rel ic
    refine ⟨(e0.mod.nolimit.keeps up).keeps ic.toInCall.keep, codeAny_func (wpAny_mono (ht.run [] s1 (L2.start N vs) H _ J hq) (fun fl s' z => ?_) fun e s' z => z)⟩
    have done : ∀ {σ' : St} {H' : Hp} {v : V} {u : Value}, Inv (cxH CX0 P w K mg base N qual (defScope st) f cdv A outer s H E p) [] σ' H' s' → RelV v u → Q v H' → CE outer P w H s Q u s' := by
      intro σ' H' v u I r q
      exact ⟨v, H', I.os, I.bare, I.base, I.hok, r, q⟩
    match fl, z with
    | .ret u, ⟨v, σ', H', I, r, q⟩ => exact done I r q
    | .next, ⟨σ', H', I, q⟩ => exact done (v := V.non) (u := Value.none) I rfl q
    | .brk, ⟨_, _, _, q⟩ => exact False.elim q
    | .cont, ⟨_, _, _, q⟩ => exact False.elim q
end
/-- f(..) where p is at hand -/
def tCallE (sp : Addr → Addr → Addr → Sp) (a C d : Addr) (t : TA) : TE := fun σ H Q => t σ H fun vs H1 => sp a C d vs H1 Q E0
/-- isinstance(e, c), e the error at a -/
def rIsP (K : PySem.W.Frag) (a C d : Addr) : List V → Hp → VK → Prop := fun xs H Q => ExcC K C ∧ ∃ (c : V) (cv : Value) (b : Bool) (fs : List (Str × V)), xs = [.ref a, c] ∧ (∀ u, RelV c u → u = cv) ∧ PySem.W.kitOne K (.ref C) cv = some b ∧ H d = some (.xd fs) ∧ Q (.bl b) H
section
variable {X : Cx} {k : Nat} {f C d : Addr} {fd : FuncData} {ps : List Str} {sp : Addr → Addr → Addr → Sp} {x : Str} {q pos : Pos} {e : Expr} {es : List Expr} {t : TA} {p : Addr × Obj}
theorem pe_callE (F : FnE X.prog X.w X.K X.mg X.base k f fd ps sp) (hr : RoomH k X.A) (hp : p ∈ X.pn) (ep : ErrP C d p) (hg : Gl X x) (hm : X.mg x = some (.ref f)) (hk : PySem.W.keepIn X.K (.ref f) = true) (hb : Binds X.K fd ps []) (ha : PA X (e :: es) t)
    (hdb : (x == ("__debug__" : Str)) = false := by decide) (he : starEach (e :: es) X.env = (false, eval e X.env) :: starEach es X.env := by rfl) (hpl : (backTo pos (starEach es X.env)).any (·.1) = false := by rfl) :
    PE X (.Call (.Name x q) (e :: es) [] pos) (tCallE sp p.1 C d t) := by
  refine ⟨fun pins s σ H Q I h => wpAny_Call_Name_kw (ld_glob I hg hm ?_ hdb)⟩
  refine PySem.W.callWith_K (h₀ := X.base) I.ok.mod.kin hk (thn (ha.run pos pins s σ H _ I h) fun us s1 ⟨vs, H1, I1, r, z⟩ => ⟨I1.kIn, ?_⟩) he hpl
  have nl : us.length = ps.length := by
    rw [← r.length]
    exact F.len _ _ _ _ _ _ _ z
  have bb := hb s1 us I1.kIn (by rw [List.append_nil]; exact nl)
  rw [List.append_nil] at bb
  obtain ⟨p1, p2, p3, p4, p5⟩ := I1.pin p (List.mem_append_left _ hp)
  have pin : PinOk X.stack H1 s1 p := ⟨p1, p2, fun hm => (List.mem_cons.mp (I1.stkSub p.1 hm)).elim p3 p4, p5⟩
  refine wpAny_call (codeAny_mono (F.run X.A X.stack s1 H1 ⟨us, []⟩ us vs Q E0 p C d hr ep pin I1.env0 bb r z) fun r2 s2 y => ?_)
  match r2, y with
  | .ok (.ret u), y => exact I1.after y
  | .ok .next, y => exact False.elim y
  | .ok .brk, y => exact False.elim y
  | .ok .cont, y => exact False.elim y
  | .error er, y => exact False.elim y
theorem call_isP (hp : p ∈ X.pn) (ep : ErrP C d p) : CallR X (.builtin "isinstance") (rIsP X.K p.1 C d) := by
  intro pins s σ H xs us Q I r h
  obtain ⟨ec, c, cv, b, fs, rfl, hcv, e, hd, q⟩ := h
  match us, r with
  | [u0, u1], .cons r0 (.cons r1 .nil) =>
    obtain rfl : u0 = Value.ref p.1 := r0
    obtain rfl := hcv _ r1
    obtain ⟨hget, _⟩ := I.pin p (List.mem_append_left _ hp)
    obtain ⟨vs, hv⟩ := ep.fs
    have hx : ObjOk X.prog X.w H s.heap d (.xd fs) := I.hok d _ hd
    obtain ⟨mA, ns, _⟩ := hx
    obtain ⟨od, hod, _⟩ := lookIn_ns ns
    have J : PySem.W.InstAt s.heap p.1 p.2 C (some od) := by
      obtain ⟨z1, z2⟩ := ep.z
      exact ⟨hget, z1, by unfold PySem.W.notCls; rw [hv] <;> rfl, by rw [z2]; exact hod⟩
    exact PySem.W.kia_one (MXc.kit_err ec) I.kIn J e (fun z => nomatch z) fun tk => ⟨.bl b, H, I.kept (t' := tk) fun _ _ z => z, rfl, q⟩
end
end MXe
/-! xs.count(True), xs a list of bools. -/
namespace MXf
open PySem PySem.Spec PyProof.Rows L2
theorem bools_is : ∀ {bs : List Bool} {us : List Value}, Vals (bs.map V.bl) us → us = bs.map Value.bool
  | [], _, .nil => rfl
  | b :: r, _, .cons h t => by
    have e := bools_is t
    rw [e, show _ = Value.bool b from h]
    rfl
theorem count_is (k : Bool) : ∀ bs : List Bool, (bs.map Value.bool).countP (isBoolOf k) = bs.count k
  | [] => rfl
  | b :: r => by
    rw [List.map_cons, List.countP_cons, List.count_cons, count_is k r]
    rfl
/-- xs.count(k) -/
def rCntB (K : PySem.W.Frag) : V → List V → Hp → VK → Prop := fun x xs H Q => ∃ (p : Addr) (bs : List Bool) (k : Bool), x = .ref p ∧ xs = [.bl k] ∧ SqL K H p (bs.map V.bl) ∧ Q (.int (bs.count k : Nat)) H
theorem mt_countB {X : Cx} : MtR X "list.count" (rCntB X.K) := by
  intro pins s σ H x xs v us Q I rx rxs h
  obtain ⟨p, bs, k, rfl, rfl, hs, q⟩ := h
  obtain rfl : v = Value.ref p := rx
  obtain ⟨u, rfl, ru⟩ := rxs.one
  obtain rfl : u = Value.bool k := ru
  obtain ⟨its, rv, ⟨⟨cls, dd, data, sl⟩, n, ho, hc, hdn, hd⟩, hlen⟩ := I.list hs
  simp only at hc hd
  subst hc hd
  have e := bools_is rv
  subst e
  refine call_meets PySem.F.slot_list_count ⟨_, ho, rfl⟩ PySem.F.entry_list_count (PySem.F.args_list_count_2 _ _)
    (SeqAt.list_countAt p (bs.map Value.bool).toArray n dd sl (.bool k) (isBoolOf k)) ⟨ho, fun y hy => ?_, ?_⟩
  · have hy' : y ∈ bs.map Value.bool := by simpa using hy
    obtain ⟨b, _, rfl⟩ := List.mem_map.mp hy'
    exact SeqAt.EqAt.bool_bool b k
  · refine ⟨.int (bs.count k : Nat), H, I.tok _, ⟨s.toks, ?_⟩, q⟩
    show Value.int (((bs.map Value.bool).toArray.toList.countP (isBoolOf k) : Nat) : Int) s.toks = Value.int ((bs.count k : Nat) : Int) s.toks
    rw [← count_is k bs]
end MXf
/-! C(e, ..) of an own class whose __init__ may raise: the wish may speak of the caller's slots. What is never reached. -/
namespace MXg
open PySem PySem.Spec PyProof.Rows L2
abbrev St := L2.St
def tMakeS (C : Addr) (sp : Sp) (E : St → XK) (t : TA) : TE := fun σ H Q => t σ H fun vs H1 => ∀ x dx, H1 x = none → H1 dx = none → dx ≠ x →
  sp (.ref x :: vs) (upd (upd H1 dx (.own x)) x (.ins C dx [])) (fun v H2 => v = .non ∧ Q (.ref x) H2) (E σ)
section
variable {X : Cx} {CX : CXT} {k : Nat} {f C : Addr} {fd : FuncData} {ps : List Str} {sp : Sp} {E : St → XK} {x : Str} {p pos : Pos} {e : Expr} {es : List Expr} {t : TA}
theorem pe_makeS (M : Mk X.K C f) (F : FnOk X.prog X.w X.K X.mg X.base CX k f fd ps sp) (hr : Room (k + 1) X.A) (hg : Gl X x) (hm : X.mg x = some (.ref C)) (hb : Binds X.K fd ps []) (hx : ∀ σ, PassesAt CX X σ (E σ)) (ha : PA X (e :: es) t)
    (hdb : (x == ("__debug__" : Str)) = false := by decide) (he : starEach (e :: es) X.env = (false, eval e X.env) :: starEach es X.env := by rfl) (hpl : (backTo pos (starEach es X.env)).any (·.1) = false := by rfl) :
    PE X (.Call (.Name x p) (e :: es) [] pos) (tMakeS C sp E t) := by
  refine ⟨fun pins s σ H Q I h => wpAny_Call_Name_kw (ld_glob I hg hm ?_ hdb)⟩
  refine PySem.W.callWith_K (h₀ := X.base) I.ok.mod.kin M.kp (thn (ha.run pos pins s σ H _ I h) fun us s1 ⟨vs, H1, I1, r, q⟩ => ⟨I1.kIn, ?_⟩) he hpl
  have want := q (s1.heap.objs.size + 1) s1.heap.objs.size (I1.hok.fresh (Nat.le_succ _)) (I1.hok.fresh (Nat.le_refl _)) (Nat.ne_of_lt (Nat.lt_succ_self _))
  have J := Inv.made (C := C) I1
  have rr : Vals (V.ref (s1.heap.objs.size + 1) :: vs) (Value.ref (s1.heap.objs.size + 1) :: us) := .cons rfl r
  have nl : (Value.ref (s1.heap.objs.size + 1) :: us).length = ps.length := by
    rw [← rr.length]
    exact F.len _ _ _ _ want
  have bb := hb ⟨(s1.heap.push PySem.W.emptyDict).push (PySem.W.instObj C s1.heap.objs.size), s1.gens, s1.drawn, s1.toks, s1.os⟩ (Value.ref (s1.heap.objs.size + 1) :: us) J.kIn (by rw [List.append_nil]; exact nl)
  rw [List.append_nil] at bb
  refine wpAny_call (make_map (f := f) I1.kIn M.makes M.init (beq_iff_eq.mp M.fn) (codeAny_mono
    (F.run _ X.stack _ _ ⟨Value.ref (s1.heap.objs.size + 1) :: us, []⟩ _ _ _ (E σ) (hr.make C us []) (J.env0.make C us []) bb rr want) fun r2 s2 z => ?_))
  match r2, z with
  | .error er, z => exact hx σ pins _ _ er s2 J z
  | .ok (.ret u), z =>
    obtain ⟨v, H', I3, rv, ev, q3⟩ := J.after z
    subst ev
    exact ⟨rv, ⟨V.ref (s1.heap.objs.size + 1), H', I3, rfl, q3⟩⟩
  | .ok .next, z => exact False.elim z
  | .ok .brk, z => exact False.elim z
  | .ok .cont, z => exact False.elim z
/-- never reached -/
theorem pt_no {e : Expr} : PT X e (fun _ _ _ => False) := ⟨fun _ _ _ _ _ _ h => h.elim⟩
theorem pe_no {e : Expr} : PE X e (fun _ _ _ => False) := ⟨fun _ _ _ _ _ _ h => h.elim⟩
theorem pss_no {st : List Stmt} : PSs X st (fun _ _ _ => False) := ⟨fun _ _ _ _ _ _ h => h.elim⟩
end
end MXg
/-! try: .. with several clauses `except C as n`, one name for all of them. -/
namespace L2N
open PySem PySem.Spec PyProof.Rows L2
/-- a clause: its class, its suite's reading by the error's address, class and dict -/
abbrev Cls1 := Value × (Addr → Value → Option Addr → TS)
def fall (i : Nat) (D : Ends) : Ends := ⟨fun τ G => D.nx (τ.set i none) G, D.rt, fun τ G => D.bk (τ.set i none) G, fun τ G => D.ct (τ.set i none) G⟩
def wL (K : PySem.W.Frag) (i : Nat) (out : WX) (D : Ends) : List Cls1 → WX
  | [] => out
  | p :: rest => fun k d σ H => ∃ hit, PySem.W.exmOne K k p.1 = some hit ∧
    (hit = true → ∀ e, H e = none → p.2 e k d (fall i D) (σ.set i (some (.ref e))) H) ∧ (hit = false → wL K i out D rest k d σ H)
inductive AsL (X : Cx) (n : Str) : List ExceptHandler → List Cls1 → Prop
  | nil : AsL X n [] []
  | cons {y : Str} {p : Cls1} {st : Stmt} {more : List Stmt} {q1 q2 : Pos} {tail : List ExceptHandler} {rest : List Cls1} (named : Names X y p.1)
      (suite : ∀ (e : Addr) (o : Obj) (k : Value) (d : Option Addr) (held : List (Addr × Obj)), Zn k d o → (∃ fs, o.data = .fields fs) → PSs (X.suite e ((e, o) :: held)) (st :: more) (p.2 e k d)) (more_ : AsL X n tail rest) :
      AsL X n (.ExceptHandler (some (.Name y q1)) (some n) (st :: more) q2 :: tail) (p :: rest)
section
variable {X : Cx} {n : Str} {i : Nat} {body : List Stmt} {c1 : ExceptHandler} {cs : List ExceptHandler} {l : List Cls1} {pos : Pos} {tb : WX → TS} {out : WX}
theorem ps_try_asL (top : X.stack = X.env :: X.outer) (own : X.env.frame = some X.env.locals) (nd : X.N.Nodup) (at_ : X.N[i]? = some n) (lc : X.env.kindOf n = some .local) (tk : Takes X out)
    (hb : ∀ (W : WX) (held : List (Addr × Obj)) (xe : Value → Shared → Prop), Takes (X.tr held xe) W → PassesOwn (model X.prog X.w) X.A X.env xe → PSs (X.tr held xe) body (tb W))
    (clauses : AsL X n (c1 :: cs) l) : PS X (.Try body (c1 :: cs) [] [] pos) (fun D σ H => tb (wL X.K i out D l) D σ H) := by
  constructor
  intro pins s σ H D I want
  have sound := I.ok
  have frames : X.A.frames = some (X.env :: X.outer) := by
    rw [sound.frames, top]
  have place : Loc X.env.scope n := .inl lc
  apply wpAny_Try_except
  refine wpAny_mono ((hb (wL X.K i out D l) (X.pn ++ pins) _ (fun err s' flying => ?_) PassesOwn.looking).run [] s σ H D (I.toTry _) want) (fun flow s1 done => ?_) (fun _ _ z => z)
  case refine_1 =>
    rcases flying with ⟨e, B, sI, pins2, τ, G, k, d, rfl, J2, nb, up, sky, ne, os, bare, wish⟩
    have J : Inv X pins τ G sI := J2.ofTry sound
    rw [top] at sky
    show wpAny (model X.prog X.w) X.A (noteFrame (.ref e) X.env) _ _ _
    refine Sky.land Zn.steady frames own sky fun g3 landed up3 => ?_
    have J3 : Inv X pins τ G { s' with heap := g3 } := J.landed nb landed.1 (up.trans up3) os bare
    rcases landed.there with ⟨o3, f3, here3, z3, data3⟩
    have apart : e ∉ frs (X.env :: X.outer) := fun inn => by
      rcases landed.2.2.1.mem inn with ⟨_, o', here', no⟩
      rw [here3] at here'
      cases here'
      exact no _ data3
    have notL : e ≠ X.env.locals := fun z => apart (List.mem_filterMap.mpr ⟨X.env, List.mem_cons_self, by rw [own, z]⟩)
    have notF : e ∉ X.fs := fun inn => by
      rcases List.mem_filterMap.mp inn with ⟨v, hv, q⟩
      exact apart (List.mem_filterMap.mpr ⟨v, List.mem_cons_of_mem _ hv, q⟩)
    have suite3 := J3.suite here3 data3 ne notL notF
    have walk : ∀ {hs : List ExceptHandler} {m : List Cls1}, AsL X n hs m → wL X.K i out D m k d τ G → wpAny (model X.prog X.w) X.A (handleBy (.ref e) X.env hs) (SP X pins D) X.xe { s' with heap := g3 } := by
      intro hs m ok
      induction ok with
      | nil =>
        intro leaves
        apply wpAny_handleBy_nil
        rcases id landed with ⟨_, _, _, oe, fs, T, oT, _, here, _, data, one, _⟩
        unfold PySem.passOn
        refine wpAny_bind (wpAny_field here data one ?_)
        rw [if_neg (show ¬ ((Value.ref T == Value.none) = true) from by simp)]
        have off : wpAny (model X.prog X.w) X.A (setFlight (.ref e) X.env.frame) (fun _ s4 => wpAny (model X.prog X.w) X.A (throw (.ref e) : Sem Flow) (SP X pins D) X.xe s4) X.xe { s' with heap := g3 } := by
          rw [own]
          refine HandSPX.setFlight_upZ landed fun g4 hop up4 => wpAny_throw (tk _ _ ?_)
          exact ⟨e, B, sI, pins, τ, G, k, d, rfl, J, nb, (up.trans up3).trans up4, .inr (.inr (by rw [top]; exact hop)), ne, os, bare, leaves⟩
        first
          | exact wpAny_bind (wpAny_pure (wpAny_bind off))
          | exact wpAny_bind off
      | @cons y p st more q1 q2 tail rest named suite r ih =>
        rintro ⟨hit, known, yes, no⟩
        refine wpAny_handleBy_cons (codeAny_handlers_test ?_) (by intro q; cases q)
        have looks : PySem.W.Looks (model X.prog X.w) g3 (typeOf (.ref e)) k := fun _ _ _ _ keep q => wpAny_typeOf_ref (keep _ _ here3) (by rw [z3.1]; exact q)
        have met := PySem.W.exm_one (M := model X.prog X.w) (J3.kIn) looks known
        have read : ∀ {Q E : Value → Shared → Prop}, Q p.1 { s' with heap := g3 } → wpAny (model X.prog X.w) (X.A.mark (some (.ref e))) (eval (.Name y q1) X.env) Q E { s' with heap := g3 } := fun {Q E} q => by
          rcases named with ⟨gl, nodbg, own' | ⟨none', blt, nn⟩⟩
          · exact ld_glob (X := X.suite e ((e, o3) :: (X.pn ++ pins))) suite3 gl own' q nodbg
          · exact ld_blt (X := X.suite e ((e, o3) :: (X.pn ++ pins))) suite3 gl none' blt q nn nodbg
        apply read
        apply met.here
        cases hit with
        | false => exact ih (no rfl)
        | true =>
          apply codeAny_handlers_suite_as
          refine HandSPX.lands_againZ landed fun g4 landed4 up4 => ?_
          have J4 : Inv X pins τ G { s' with heap := g4 } := J.landed nb landed4.1 ((up.trans up3).trans up4) os bare
          rcases landed4.there with ⟨o4, f4, here4, z4, data4⟩
          have suite4 := J4.suite here4 data4 ne notL notF
          refine store_ok (X := X.suite e ((e, o4) :: (X.pn ++ pins))) (v := .ref e) suite4 nd at_ place rfl (fun s5 I5 => ?_) (.inr lc)
          refine wpAny_mono ((suite e o4 k d (X.pn ++ pins) z4 ⟨_, data4⟩).run [] s5 _ G _ I5 (yes rfl e ne)) (fun flow s6 done => ?_) (fun _ _ z => z.elim)
          cases flow with
          | ret u =>
            rcases done with ⟨v, τ6, G6, I6, rel, q6⟩
            exact gone_ok (I6.unsuite sound) nd at_ lc fun s7 I7 => ⟨_, _, _, I7, rel, q6⟩
          | next =>
            rcases done with ⟨τ6, G6, I6, q6⟩
            exact gone_ok (I6.unsuite sound) nd at_ lc fun s7 I7 => ⟨_, _, I7, q6⟩
          | brk =>
            rcases done with ⟨τ6, G6, I6, q6⟩
            exact gone_ok (I6.unsuite sound) nd at_ lc fun s7 I7 => ⟨_, _, I7, q6⟩
          | cont =>
            rcases done with ⟨τ6, G6, I6, q6⟩
            exact gone_ok (I6.unsuite sound) nd at_ lc fun s7 I7 => ⟨_, _, I7, q6⟩
    exact walk clauses wish
  case refine_2 =>
    cases flow with
    | ret u =>
      rcases done with ⟨v, τ, G, J, rel, q⟩
      exact ⟨v, τ, G, J.ofTry sound, rel, q⟩
    | next =>
      rcases done with ⟨τ, G, J, q⟩
      exact wpAny_execs_nil ⟨τ, G, J.ofTry sound, q⟩
    | brk =>
      rcases done with ⟨τ, G, J, q⟩
      exact ⟨τ, G, J.ofTry sound, q⟩
    | cont =>
      rcases done with ⟨τ, G, J, q⟩
      exact ⟨τ, G, J.ofTry sound, q⟩
end
end L2N
/-! len(o), o of an own class with its own __len__. -/
namespace MXi
open PySem PySem.Spec PyProof.Rows L2
/-- the class has g as its __len__ -/
structure LenOf (K : PySem.W.Frag) (C g : Addr) : Prop where
  own : PySem.W.findIn K (.ref C) "__len__" = some (some (.ref g))
  isF : PySem.W.isFn K (.ref g) = true
def rLenO (C : Addr) (sp : Sp) (E : XK) : List V → Hp → VK → Prop := fun xs H Q => ∃ (a dx : Addr) (fs : List (Str × V)), xs = [.ref a] ∧ H a = some (.ins C dx fs) ∧
  sp [.ref a] H (fun v H' => ∃ n : Int, v = .int n ∧ 0 ≤ n ∧ n < 2 ^ 63 ∧ Q (.int n) H') E
section
variable {X : Cx} {CX : CXT} {k : Nat} {C g : Addr} {fd : FuncData} {ps : List Str} {sp : Sp} {E : XK}
theorem call_lenO (L : LenOf X.K C g) (F : FnOk X.prog X.w X.K X.mg X.base CX k g fd ps sp) (room : Room (k + 1) X.A) (hb : Binds X.K fd ps []) (hx : Passes CX X E) : CallR X (.builtin "len") (rLenO C sp E) := by
  intro pins s σ H xs us Q I rel want
  rcases want with ⟨a, dx, fs, rfl, here, want⟩
  obtain ⟨u, rfl, ru⟩ := vals1 rel
  obtain rfl : u = Value.ref a := ru
  rcases ins_get I.hok here with ⟨mA, O, _, _, _, _⟩
  rcases O.look with ⟨od, J, _⟩
  rcases I.fr with ⟨m, fr⟩
  have many : ([Value.ref a] ++ []).length = ps.length := F.len _ _ _ _ want
  refine PySem.W.len_K fr I.ok.mod.kin J L.own L.isF (wpAny_call ?_)
  refine codeAny_mono (F.run X.A.in1 X.stack s H ⟨[.ref a], []⟩ [.ref a] [.ref a] _ E room.in1 I.env0.in1 (hb s [.ref a] I.kIn many) (.cons rfl .nil) want) fun r s' back => ?_
  cases r with
  | error er => exact hx pins σ H s er s' I back
  | ok fl =>
    cases fl with
    | ret v =>
      obtain ⟨y, G, I3, ry, n, rfl, n0, n1, q⟩ := I.after back
      obtain ⟨t, rfl⟩ := ry
      exact ⟨⟨n0, n1⟩, .int n, G, I3.tok _, ⟨_, rfl⟩, q⟩
    | next => exact False.elim back
    | brk => exact False.elim back
    | cont => exact False.elim back
end
end MXi
/-! C(k = v, ..) of an own class whose __init__ may raise: the wish at the caller's slots. isinstance(e, (A, B)), e the error that is handled. -/
namespace MXj
open PySem PySem.Spec PyProof.Rows L2 MXe
abbrev St := L2.St
def tMakeKS (C : Addr) (m : Nat) (sp : Sp) (gV : List V → List V → List V) (E : St → XK) (tk : TA) : TE := fun σ H Q => tk σ H fun zs H2 => zs.length = m ∧ ∀ x dx, H2 x = none → H2 dx = none → dx ≠ x →
  sp (gV [.ref x] zs) (upd (upd H2 dx (.own x)) x (.ins C dx [])) (fun v H3 => v = .non ∧ Q (.ref x) H3) (E σ)
section
variable {X : Cx} {CX : CXT} {k : Nat} {f C : Addr} {fd : FuncData} {ps ks : List Str} {sp : Sp} {E : St → XK} {x : Str} {p pos : Pos} {kws : List Keyword} {tk : TA} {g : List Value → List Value → List Value} {gV : List V → List V → List V}
theorem pe_makeKS (M : Mk X.K C f) (F : FnOk X.prog X.w X.K X.mg X.base CX k f fd ps sp) (hr : Room (k + 1) X.A) (hg : Gl X x) (hm : X.mg x = some (.ref C)) (hb : KBn X.K fd ps 1 ks g gV) (hx : ∀ σ, PassesAt CX X σ (E σ)) (hkw : PK X kws tk)
    (hall : (backToKw pos (keywordEach kws X.env)).all (·.1.isSome) = true := by rfl) (hks : (backToKw pos (keywordEach kws X.env)).filterMap (·.1) = ks := by rfl) (hdb : (x == ("__debug__" : Str)) = false := by decide)
    (hpl : ((backTo pos (starEach [] X.env)).any (·.1) || (backToKw pos (keywordEach kws X.env)).any (·.1.isNone)) = false := by rfl) :
    PE X (.Call (.Name x p) [] kws pos) (tMakeKS C ks.length sp gV E tk) := by
  refine ⟨fun pins s σ H Q I h => ?_⟩
  refine wpAny_Call_Name_kw (ld_glob I hg hm ?_ hdb)
  refine PySem.W.callWith_KW0 (h₀ := X.base) I.ok.mod.kin M.kp hall ?_ hpl
  refine thn (hkw.run pos pins s σ H _ I h) fun ws s1 ⟨zs, H1, I1, rz, l2, q⟩ => ⟨I1.kIn, ?_⟩
  rw [hks]
  have want := q (s1.heap.objs.size + 1) s1.heap.objs.size (I1.hok.fresh (Nat.le_succ _)) (I1.hok.fresh (Nat.le_refl _)) (Nat.ne_of_lt (Nat.lt_succ_self _))
  have J := Inv.made (C := C) I1
  have r1 : Vals [V.ref (s1.heap.objs.size + 1)] [Value.ref (s1.heap.objs.size + 1)] := .cons rfl .nil
  have r2 := hb.rel r1 rz
  refine wpAny_call (make_map (f := f) I1.kIn M.makes M.init (beq_iff_eq.mp M.fn) (codeAny_mono
    (F.run _ X.stack _ _ ⟨[Value.ref (s1.heap.objs.size + 1)], ks.zip ws⟩ (g [Value.ref (s1.heap.objs.size + 1)] ws) _ _ (E σ) (hr.make C [] (ks.zip ws)) (J.env0.make C [] (ks.zip ws)) (hb.to _ [Value.ref (s1.heap.objs.size + 1)] ws J.kIn rfl (rz.length.symm.trans l2)) r2 want) fun r2 s2 z => ?_))
  match r2, z with
  | .error er, z => exact hx σ pins _ _ er s2 J z
  | .ok (.ret u), z =>
    obtain ⟨v, H', I3, rv, ev, q3⟩ := J.after z
    subst ev
    exact ⟨rv, ⟨V.ref (s1.heap.objs.size + 1), H', I3, rfl, q3⟩⟩
  | .ok .next, z => exact False.elim z
  | .ok .brk, z => exact False.elim z
  | .ok .cont, z => exact False.elim z
end
/-- isinstance(e, cs), e the error at a, cs a tuple of classes -/
def rIsPT (K : PySem.W.Frag) (a C d : Addr) : List V → Hp → VK → Prop := fun xs H Q => ExcC K C ∧ ∃ (tp : Addr) (cs : List V) (ws : List Value) (b : Bool) (fs : List (Str × V)), xs = [.ref a, .ref tp] ∧ H tp = some (.tup cs) ∧ Paired ClsV cs ws ∧ PySem.W.kitAny K (.ref C) ws = some b ∧ H d = some (.xd fs) ∧ Q (.bl b) H
section
variable {X : Cx} {C d : Addr} {p : Addr × Obj}
theorem call_isPT (hp : p ∈ X.pn) (ep : ErrP C d p) : CallR X (.builtin "isinstance") (rIsPT X.K p.1 C d) := by
  intro pins s σ H xs us Q I r h
  obtain ⟨ec, tp, cs, ws, b, fs, rfl, hT, k, e, hd, q⟩ := h
  obtain ⟨u1, u2, rfl, r1, r2⟩ := vals2 r
  cases (show u1 = Value.ref p.1 from r1)
  cases (show u2 = Value.ref tp from r2)
  obtain ⟨hget, _⟩ := I.pin p (List.mem_append_left _ hp)
  obtain ⟨vs, hv⟩ := ep.fs
  have hx : ObjOk X.prog X.w H s.heap d (.xd fs) := I.hok d _ hd
  obtain ⟨mA, ns, _⟩ := hx
  obtain ⟨od, hod, _⟩ := lookIn_ns ns
  have J : PySem.W.InstAt s.heap p.1 p.2 C (some od) := by
    obtain ⟨z1, z2⟩ := ep.z
    exact ⟨hget, z1, by unfold PySem.W.notCls; rw [hv] <;> rfl, by rw [z2]; exact hod⟩
  obtain ⟨_, its, rv, o, h1, h2, n, h3⟩ := (show ObjOk X.prog X.w H s.heap tp (.tup cs) from I.hok tp _ hT)
  have e3 := ClsV.all k rv
  subst e3
  obtain ⟨oc, od', dt, sl⟩ := o
  simp only at h2 h3
  subst h2 h3
  exact PySem.W.kia_tup (MXc.kit_err ec) I.kIn J h1 e (fun z => nomatch z) fun tk => ⟨.bl b, H, I.kept (t' := tk) fun _ _ z => z, rfl, q⟩
end
end MXj
/-! The law's own def where nothing is being printed: str(list) in it; its end from there. -/
namespace MXk
open PySem PySem.Spec PyProof.Rows L2
/-- a def's promise where nothing is being printed -/
structure FnG (P : Program) (w : World) (K : PySem.W.Frag) (mg : Str → Option Value) (base : Heap) (k : Nat) (f : Addr) (fd : FuncData) (ps : List Str) (sp : Sp) : Prop where
  len : ∀ vs H Q E, sp vs H Q E → vs.length = ps.length
  run : ∀ (A : Around) (outer : List Env) (s : Shared) (H : Hp) (args : Args) (us : List Value) (vs : List V) (Q : VK) (E : XK), Room k A → A.guards = some [] → Env0 P w K mg base A outer s H → BindsTo s fd args (ps.zip us) → Vals vs us → sp vs H Q E →
    codeAny (model P w) A (.call (.ref f) args) (CR CX0 outer P w H s Q E) s
section
variable {P : Program} {w : World} {K : PySem.W.Frag} {mg : Str → Option Value} {base : Heap} {k : Nat} {f : Addr} {fd : FuncData} {N ps : List Str} {sp : Sp} {x qual : Str} {st : Stmt}
theorem _root_.L2.Fun.okG (F : Fun K x qual st f fd) (S : FnScope N ps (defScope st)) (len : ∀ vs H Q E, sp vs H Q E → vs.length = ps.length)
    (body : ∀ (cdv : Value) (A : Around) (outer : List Env) (s : Shared) (H : Hp) (vs : List V) (Q : VK) (E : XK), A.guards = some [] → Room k (A.deeper (envOfC qual (defScope st) s.heap.objs.size f cdv)) → sp vs H Q E →
      ∃ t, PSs (cxOf CX0 P w K mg base N qual (defScope st) f cdv A outer s H E).nox (defBody st) t ∧ t { nx := fun _ H' => Q .non H', rt := Q } (L2.start N vs) H) : FnG P w K mg base (k + 1) f fd ps sp := by
  obtain ⟨oc, od, kV, doc, pm, an, cdv, ct, osl, rfl, lk, hcd⟩ := F.ex
  constructor
  · exact len
  · intro A outer s H args us vs Q E room none e0 bi rel hsp
    have nl := len _ _ _ _ hsp
    have up : ∀ b o, base.get? b = some o → s.heap.get? b = some o := fun b o e => (e0.bs b o e).1
    have kin : K.In s.heap := e0.mod.kin.keeps up
    have kinds : ∀ y ∈ ps.zip us, (defScope st).names.lookup y.1 = some .local ∨ ((defScope st).names.lookup y.1 = some .cell ∧ ((cellsFrom (s.heap.objs.size + 1) (defScope st).names []).lookup y.1).isSome = true) := by
      rintro ⟨n, v⟩ hy
      rcases S.par n (List.of_mem_zip hy).1 with q | q
      · exact Or.inl q
      · exact Or.inr ⟨q, PySem.W.cellsFrom_some _ _ _ (Or.inl q)⟩
    refine codeAny_call_function room.depth (kin _ _ lk) rfl S.co S.gen rfl (PySem.W.codeRec_of kin hcd) (bi _ _ _ _ (wpAny_newFunctionEnv_cells S.kind kinds fun env eqv s1 ic => ?_))
    subst eqv
    obtain ⟨t, ht, hq⟩ := body cdv A outer s H vs Q E none (room.deeper _) hsp
    have J : Inv (cxOf CX0 P w K mg base N qual (defScope st) f cdv A outer s H E) [] (L2.start N vs) H s1 := inv_start S room.hd e0 nl rel ic
    refine ⟨(e0.mod.nolimit.keeps up).keeps ic.toInCall.keep, codeAny_func (wpAny_mono (ht.nox.run [] s1 (L2.start N vs) H _ J hq) (fun fl s' z => ?_) fun e s' z => z)⟩
    have done : ∀ {σ' : L2.St} {H' : Hp} {v : V} {u : Value}, Inv (cxOf CX0 P w K mg base N qual (defScope st) f cdv A outer s H E) [] σ' H' s' → RelV v u → Q v H' → CE outer P w H s Q u s' := by
      intro σ' H' v u I r q
      exact ⟨v, H', I.os, I.bare, I.base, I.hok, r, q⟩
    match fl, z with
    | .ret u, ⟨v, σ', H', I, r, q⟩ => exact done I r q
    | .next, ⟨σ', H', I, q⟩ => exact done (v := V.non) (u := Value.none) I rfl q
    | .brk, ⟨_, _, _, q⟩ => exact False.elim q
    | .cont, ⟨_, _, _, q⟩ => exact False.elim q
end
/-- what an abstract heap must be for the script at a to be at hand -/
structure Gr (P : Program) (w : World) (K : PySem.W.Frag) (s : Shared) (a : Addr) (ns : List Int) (H : Hp) : Prop where
  only : Only H
  seq : SqL K H a (ns.map V.int)
  hok : HOk P w H s.heap
  at_ : ∀ b, H b ≠ none → b = a
  free : H a ≠ none → K.lookup a = none
theorem gr_ex {P : Program} {w : World} {K : PySem.W.Frag} {s : Shared} {a : Addr} {vs : List Value} {ns : List Int} (kin : K.In s.heap) (ha : s.heap.get? a = some { cls := .type "list", data := .seq vs.toArray }) (hi : IntsAre vs ns) (hl : ns.length ≤ sizeLine) : ∃ H, Gr P w K s a ns H := by
  have rel := vals_ints hi
  cases own : K.lookup a with
  | some o =>
    have q := kin a o own
    rw [ha] at q
    cases q
    refine ⟨fun _ => none, ⟨fun _ => Or.inl rfl, Or.inr ⟨_, vs.toArray, _, own, rfl, rfl, rfl, ?_, by simpa using rel⟩, fun b u z => ?_, fun b z => absurd rfl z, fun z => absurd rfl z⟩⟩
    · rw [List.size_toArray, hi.length]
      exact hl
    · cases (show (none : Option HO) = some u from z)
  | none =>
    refine ⟨fun b => if b = a then some (.frz { cls := .type "list", data := .seq vs.toArray } (.lst (ns.map V.int))) else none, ⟨fun b => ?_, Or.inl (Or.inr ⟨_, if_pos rfl⟩), fun b u z => ?_, fun b z => ?_, fun _ => own⟩⟩
    · by_cases e : b = a
      · exact Or.inr ⟨_, _, if_pos e⟩
      · exact Or.inl (if_neg e)
    · by_cases e : b = a
      · subst e
        cases (if_pos rfl).symm.trans z
        refine ⟨ha, ?_, vs, _, rel, ha⟩
        rw [List.length_map]
        exact hl
      · cases (if_neg e).symm.trans z
    · by_cases e : b = a
      · exact e
      · exact absurd (if_neg e) z
theorem call_law {P : Program} {w : World} {K : PySem.W.Frag} {mg mb : Str → Option Value} {k : Nat} {fa a : Addr} {fd : FuncData} {x : Str} {sp : Sp} {s : Shared} {vs : List Value} {ns : List Int}
    (kin : K.In s.heap) (hns : s.heap.Ns mainGlobals mg) (hb : s.heap.Ns builtinsNs mb) (boot : ∀ x : Str, x ≠ "__name__" → mb x = bootBuiltins x) (lim : s.heap.NoLimit) (gens : s.gens = #[])
    (ha : s.heap.get? a = some { cls := .type "list", data := .seq vs.toArray }) (hi : IntsAre vs ns) (hl : ns.length ≤ sizeLine) (room : Room k callerA)
    (F : ∀ base : Heap, K.In base → base.Ns mainGlobals mg → FnG P w K mg base k fa fd [x] sp) (bind : ∀ (s : Shared) (u : Value), BindsTo s fd ⟨[u], []⟩ [(x, u)])
    (hsp : ∀ H : Hp, Only H → SqL K H a (ns.map V.int) → sp [.ref a] H (fun v _ => v = .bl true) fun _ _ _ => False) :
    codeAny (model P w) callerA (.call (.ref fa) ⟨[.ref a], []⟩) (fun r s' => r = .ok (.ret (.bool true)) ∧ OldK s.heap s'.heap ∧ s'.os = s.os ∧ AllBare s'.gens) s := by
  obtain ⟨H, G⟩ := gr_ex (P := P) (w := w) kin ha hi hl
  have noDict : ∀ {b : Addr} {o : Obj} {es : Array DictEntry} {ep : Nat}, s.heap.get? b = some o → o.data = .dict es ep → H b = none := by
    intro b o es ep e d
    cases q : H b with
    | none => rfl
    | some u =>
      obtain rfl : b = a := G.at_ b (by rw [q]; exact nofun)
      rw [ha] at e
      cases e
      cases (show Data.seq vs.toArray _ = Data.dict es ep from d)
  have ns' : ∀ {b : Addr} {m : Str → Option Value}, s.heap.Ns b m → (hidT s.heap H).Ns b m := fun {b m} ⟨o, es, ep, e, d, r⟩ => ⟨o, es, ep, hidT_get e (noDict e d), d, r⟩
  have kin' : K.In (hidT s.heap H) := fun b o e => hidT_get (kin b o e) (by
    cases q : H b with
    | none => rfl
    | some u =>
      obtain rfl : b = a := G.at_ b (by rw [q]; exact nofun)
      rw [G.free (by rw [q]; exact nofun)] at e
      cases e)
  obtain ⟨mc, l1, l2⟩ := lim
  have mod : Mod K mg (hidT s.heap H) := ⟨kin', ns' hns, ⟨mb, ns' hb, boot⟩, mc, ns' l1, l2⟩
  have e0 : Env0 P w K mg (hidT s.heap H) callerA [] s H := ⟨rfl, mod, fun b o e => of_hidT e, Nat.le_of_eq (hidT_size _ _), True.intro, fun b inn => (List.not_mem_nil inn).elim, G.hok, .of_eq gens⟩
  have run := (F _ kin' (ns' hns)).run callerA [] s H ⟨[.ref a], []⟩ [.ref a] [.ref a] _ _ room rfl e0 (bind s (.ref a)) (.cons rfl .nil) (hsp H G.only G.seq)
  refine codeAny_mono run fun r s' z => ?_
  match r, z with
  | .error e, z => exact z.elim
  | .ok .next, z => exact False.elim z
  | .ok .brk, z => exact False.elim z
  | .ok .cont, z => exact False.elim z
  | .ok (.ret u), ⟨v, H', os, bare, un, hok', r', q⟩ =>
    cases (show v = V.bl true from q)
    cases (show u = Value.bool true from r')
    refine ⟨rfl, OldK.of_keep fun b o e => ?_, os, bare⟩
    cases q : H b with
    | none => exact un.keep b o e q (fun z => (List.not_mem_nil z).elim) (by exact List.not_mem_nil)
    | some u =>
      rcases G.only b with z | ⟨ob, xs, z⟩
      · rw [q] at z
        cases z
      · obtain ⟨here, _⟩ := G.hok b _ z
        obtain ⟨there, _⟩ := hok' b _ (un.frzs b ob _ z)
        rw [e] at here
        cases here
        exact there
/-- the goal behind the head -/
theorem walk_G {l : PySem.W.OpenLaw} {n k : Nat} {q : Program} {loose : List Str} {XP : (Str → Option Value) → Heap → Prop} {YP : World → Heap → Prop} {d : DefRec} {K : Params → PySem.W.Frag} {sp : World → Sp} {x : Str}
    (hn : l.most = some n) (hn2 : n ≤ sizeLine) (hdf : d.params.defaults = []) (hr : Room k callerA) (hY : ∀ (w : World) (h : Heap), YP w h → (K w.params).In h)
    (F : ∀ (w : World) (mg : Str → Option Value) (fa : Addr) (h : Heap), (K w.params).In h → h.Ns mainGlobals mg → mg d.name = some (.ref fa) →
      ∃ fd : FuncData, (∀ (s : Shared) (u : Value), BindsTo s fd ⟨[u], []⟩ [(x, u)]) ∧ ∀ base : Heap, (K w.params).In base → base.Ns mainGlobals mg → FnG l.prog w (K w.params) mg base k fa fd [x] (sp w))
    (hsp : ∀ (w : World) (H : Hp) (a : Addr) (ns : List Int), ns.length ≤ n → Only H → SqL (K w.params) H a (ns.map V.int) → sp w [.ref a] H (fun v _ => v = .bl true) fun _ _ _ => False) :
    PySem.W.WalkO q loose XP YP l.row.toRowW d [] (fun f vs => PySem.call f vs) := by
  refine Att.attach_call hn hdf ?_
  intro w s₀ s₁ mg mb fa o pm cd doc a vs ns G Y ho hd hcd hmg hobj hints hlen hg
  obtain ⟨fd, bind, promise⟩ := F w mg fa _ (hY w _ Y) G.T.g hmg
  exact call_law (hY w _ Y) G.T.g G.T.b G.T.builtins G.T.nolimit hg hobj hints (Nat.le_trans hlen hn2) hr promise bind fun H only seq => hsp w H a ns hlen only seq
/-- str(x), x a list or a tuple that is read as data, where nothing is being printed -/
def rStrD (K : PySem.W.Frag) : List V → Hp → VK → Prop := fun xs H Q => ∃ (a : Addr) (d : PyData), xs = [.ref a] ∧ Dp K H (.ref a) d ∧ d.showable = true ∧ d.hasDict = false ∧ d.depth ≤ 20 ∧ d.shown.length ≤ sizeLine ∧ Q (.str d.shown) H
section
variable {X : Cx}
theorem cr_strD (hg : X.A.guards = some []) (hu : X.A.units + 64 < cLine) : CallR X (.type "str") (rStrD X.K) := by
  intro pins s σ H xs us Q I r h
  obtain ⟨a, d, rfl, hd, hs, nd, dp, sz, q⟩ := h
  obtain ⟨u, rfl, ru⟩ := vals1 r
  cases (show u = Value.ref a from ru)
  obtain ⟨as, rd⟩ := Dp.reads I d _ _ hd ru
  exact str_of_reads rd hs (PyData.noDict_hsm nd) hg (by omega) (fun _ _ e => e) (fun h' u tk hk => ⟨.str d.shown, H, I.kept (t' := tk) hk, ⟨u, rfl⟩, q⟩) sz
end
end MXk
/-! x, y = a, b in an except suite. -/
namespace MXl
open PySem PySem.Spec PyProof.Rows L2 L2H HotX
section
variable {prog : Program} {w : World} {A : Around} {E : Value → Shared → Prop} {s : Shared}
/-- the end of a tuple's walk while an error is handled -/
theorem endsT {it t x1 : Addr} {i : Nat} {items : Array Value} {Q : Option Value → Shared → Prop} (hot : HotAt A x1 s.heap) (apart : x1 ≠ it) (hit : IsTupIter s.heap it t i) (ht : IsTup s.heap t items) (out : items[i]? = none)
    (k : ∀ h', Heap.ExtBut it s.heap h' → Q none { s with heap := h' }) : wpAny (model prog w) A (pyNext (.ref it)) Q E s := by
  obtain ⟨oi, gi, ci, di⟩ := id hit
  obtain ⟨ot, gt, _, m, dt⟩ := ht
  obtain ⟨hh, o1, v1, g1, d1, c1⟩ := hot
  have typ := hit.typeIs
  unfold pyNext
  apply wpAny_bind
  apply wpAny_attempt
  refine wpAny_callSpecial?_slot (name := Str.ofString "__next__") typ slot_tupleiter_next (wpAny_call_entry slot_tupleiter_next typ entry_tupleiter_next ?_ (args_tupleiter_next _))
  show wpAny _ _ (field (.ref it) 0 >>= _) _ _ _
  apply wpAny_bind
  refine wpAny_field gi di (x := .ref t) rfl ?_
  show wpAny _ _ (if (Value.ref t == Value.none) = true then _ else _) _ _ _
  rw [if_neg (by exact Bool.false_ne_true)]
  show wpAny _ _ (field (.ref it) 1 >>= _) _ _ _
  apply wpAny_bind
  refine wpAny_field gi di (x := .int i 0) rfl ?_
  show wpAny _ _ (seqItems? (.ref t) >>= _) _ _ _
  apply wpAny_bind
  refine wpAny_seqItems gt dt ?_
  simp only [Int.toNat_natCast, out]
  apply wpAny_bind
  apply wpAny_rule
  apply wpAny_bind
  refine wpAny_setField gi di (by simp) ?_
  have g1' : (s.heap.update it (Obj.mapFields (·.setIfInBounds 0 Value.none))).get? x1 = some o1 := (Heap.get?_update_other _ _ (Ne.symm apart)).trans g1
  show wpAny _ _ (newExc (.type "StopIteration") [] >>= _) _ _ _
  apply wpAny_bind
  simp only [newExc, newTuple]
  apply wpAny_bind
  refine wpAny_newObj_type ?_ (by size_fits)
  refine wpAny_bind (m := firstArgMember _ _) (wpAny_of_eq (a := Value.none) (by first | rfl | (simp only [firstArgMember]; rfl)) ?_)
  refine wpAny_newObj_type ?_ (by size_fits)
  refine raiseNew_hot ⟨hh, o1, v1, Heap.get?_push_of_some _ (Heap.get?_push_of_some _ g1'), d1, c1⟩ (Nat.ne_of_lt (Heap.lt_size (Heap.get?_push_of_some _ g1'))) (Heap.get?_push_size _ rfl) rfl (by first | (simp; done) | (simp; omega) | (simp only [Array.size_append]; simp; omega)) ?_
  apply wpAny_bind
  refine wpAny_isInstance (T := "StopIteration") (b := true) ⟨_, Heap.get?_update_self _ (Heap.get?_push_size _ rfl) rfl, rfl⟩ isSubtype_stop ?_
  refine wpAny_pure (k _ fun b o nb e => ?_)
  have e1 : (s.heap.update it (Obj.mapFields (·.setIfInBounds 0 Value.none))).get? b = some o := (Heap.get?_update_other _ _ (Ne.symm nb)).trans e
  rw [Heap.get?_update_other _ _ (Nat.ne_of_gt (Heap.lt_size (Heap.get?_push_of_some _ e1)))]
  exact Heap.get?_push_of_some _ (Heap.get?_push_of_some _ e1)
/-- a tuple taken apart while an error is handled -/
theorem apartT {t x1 : Addr} {items : Array Value} {Q : List Value → Shared → Prop} (hot : HotAt A x1 s.heap) (ht : IsTup s.heap t items) (k : ∀ h', Heap.ExtBut s.heap.objs.size s.heap h' → Q items.toList { s with heap := h' }) :
    wpAny (model prog w) A (unpackItems (.ref t) items.size none) Q E s := by
  obtain ⟨hh, o1, v1, g1, d1, c1⟩ := hot
  have new : t ≠ s.heap.objs.size := by
    obtain ⟨o, e, _⟩ := ht
    exact Nat.ne_of_lt (Heap.lt_size e)
  have far : x1 ≠ s.heap.objs.size := Nat.ne_of_lt (Heap.lt_size g1)
  unfold unpackItems
  apply wpAny_bind
  unfold notIterableAtAll
  apply wpAny_bind
  refine wpAny_specialOf ht.typeIs slot_tuple_iter.lookup ?_
  apply wpAny_pure
  simp only [Bool.false_eq_true, if_false]
  apply wpAny_bind
  refine wpAny_holding (iter_tuple ht ?_)
  apply wpAny_bind
  refine wpAny_holding (draw_tuple new items.size 0 _ _ ⟨_, Heap.get?_push_size _ rfl, rfl, rfl⟩ (ht.push _) (by omega) fun h1 it1 sb1 => ?_)
  have whole : List.take items.size (List.drop 0 items.toList) = items.toList := List.take_of_length_le (by simp)
  rw [whole, if_neg (by simp)]
  have t1 : IsTup h1 t items := (ht.push _).extBut sb1.extBut new
  apply wpAny_bind
  refine wpAny_holding (endsT ⟨hh, o1, v1, sb1.extBut _ _ far (Heap.get?_push_of_some _ g1), d1, c1⟩ far it1 t1 (by simp) fun h2 e2 => ?_)
  simp only [Option.isSome_none, Bool.false_eq_true, if_false]
  exact wpAny_pure (k h2 fun b o nb e => e2 b o nb (sb1.extBut b o nb (Heap.get?_push_of_some _ e)))
end
section
variable {X : Cx} {pos : Pos}
theorem ps_parH {i j : Nat} {x y : Str} {a b : Expr} {ta : TA} {px py pt : Pos} {kt k2 pt2} (hc : HotC X) (hN : X.N.Nodup) (hi : X.N[i]? = some x) (hj : X.N[j]? = some y) (hij : i ≠ j) (hx : X.env.scope.names.lookup x = some .local) (hy : X.env.scope.names.lookup y = some .local)
    (ha : PA X [a, b] ta) (hw : swappedStores [.Tuple [.Name x px, .Name y py] kt pt] (.Tuple [a, b] k2 pt2) X.env = pure (some [x, y])) (hs : swapsWithSole [.Tuple [.Name x px, .Name y py] kt pt] (.Tuple [a, b] k2 pt2) pos.line X.env = pure false := by rfl) :
    PS X (.Assign [.Tuple [.Name x px, .Name y py] kt pt] (.Tuple [a, b] k2 pt2) pos) (tPar i j ta) := by
  constructor
  intro pins s σ H D I want
  rw [exec_Assign_arm]
  apply wpAny_bind
  apply wpAny_standAt
  rw [hs]
  apply wpAny_bind
  apply wpAny_pure
  rw [if_neg (by decide)]
  apply wpAny_bind
  apply Tuple_
  refine thn (ha.run _ pins s σ H _ I want) fun us s1 ⟨vs, H1, I1, r1, v, w, e1, q1⟩ => ?_
  subst e1
  obtain ⟨u1, u2, rfl, rv, rw'⟩ := vals2 r1
  refine wpAny_newObj_type ?_ (by show 2 ≤ sizeLine; decide)
  have I2 : Inv X pins σ H1 { s1 with heap := s1.heap.push { cls := .type "tuple", data := .seq [u1, u2].toArray } } := I1.kept (t' := s1.toks) fun b o e => Heap.get?_push_of_some _ e
  rw [hw]
  apply wpAny_bind
  apply wpAny_pure
  show wpAny (model X.prog X.w) X.A (rule "assign.swapped-stores" >>= fun _ => unpackItems (.ref s1.heap.objs.size) 2 none >>= fun items => assignInOrder [fun v => bindName X.env y v, fun v => bindName X.env x v] items.reverse >>= fun _ => pure Flow.next) _ _ _
  apply wpAny_bind
  apply wpAny_rule
  apply wpAny_bind
  obtain ⟨x1, hot⟩ := hc.at I2
  refine apartT (items := #[u1, u2]) hot (IsTup.new s1.heap _) fun h' ext => ?_
  have I3 := I2.kept (h' := h') (t' := s1.toks) fun b o e => ext b o (Nat.ne_of_lt (Heap.lt_size e)) e
  show wpAny _ _ (assignInOrder [fun v => bindName X.env y v, fun v => bindName X.env x v] [u2, u1] >>= fun _ => pure Flow.next) _ _ _
  apply wpAny_bind
  apply assignInOrder_cons
  apply wpAny_bindName
  refine store_ok I3 hN hj (.inl hy) rw' (fun s2 I4 => ?_) (.inr hy)
  apply assignInOrder_cons
  apply wpAny_bindName
  refine store_ok I4 hN hi (.inl hx) rv (fun s3 I5 => assignInOrder_nil (wpAny_pure ?_)) (.inr hx)
  rw [List.set_comm _ _ (Ne.symm hij)] at I5
  exact ⟨_, H1, I5, q1⟩
theorem hot_suite {X : Cx} {a : Addr} {oe : Obj} {cls : Value} {d : Option Addr} {pn : List (Addr × Obj)} (hz : L2N.Zn cls d oe) (hf : ∃ vs, oe.data = .fields vs) : HotC (X.suite a ((a, oe) :: pn)) := by
  obtain ⟨vs, e⟩ := hf
  exact ⟨(a, oe), ⟨rfl, vs, e, hz.2.2 vs e⟩, List.mem_cons_self⟩
end
end MXl
/-! Sets of texts whose table rises: added to, comprehended, sorted. -/
namespace MXm
open PySem PySem.Spec PyProof.Rows L2
abbrev Ent := Int × Value
def kS (e : Ent) : Str := match e.2 with
  | .str x _ => x
  | _ => ⟨#[]⟩
/-- one object that is such a set -/
structure Tx (w : World) (o : Obj) (es : Array Ent) (ep : Nat) (t : SetTable) (S : Str → Bool) : Prop where
  ex : o.ExactSet
  da : o.data = .set es ep t
  good : ∀ e ∈ es.toList, ∃ x u, e = (hashStr w x, Value.str x u)
  nd : (es.toList.map kS).Nodup
  mem : ∀ x, S x = true ↔ x ∈ es.toList.map kS
  few : es.size < scanBound
  fit : t.fits es.size = true
  ris : Ris t.place.toList
  led : w.params.followText "set-order" = true ∨ t.led = true
def SetT (w : World) (h : Heap) (a : Addr) (S : Str → Bool) (n : Nat) : Prop := ∃ o es ep t, h.get? a = some o ∧ es.size = n ∧ Tx w o es ep t S
theorem Tx.elems {P : Program} {w : World} {o : Obj} {es : Array Ent} {ep : Nat} {t : SetTable} {S : Str → Bool} (T : Tx w o es ep t S) : ElemsOf (PySem.strKind P w) es.toList := by
  intro e inn
  obtain ⟨x, u, rfl⟩ := T.good e inn
  exact ⟨⟨x, PySem.strKind_is P w x u, rfl⟩, rfl⟩
theorem good_key {w : World} {e : Ent} (g : ∃ x u, e = (hashStr w x, Value.str x u)) (k : Str) : Value.isStrOf k e.2 = true ↔ kS e = k := by
  obtain ⟨x, u, rfl⟩ := g
  simp [Value.isStrOf, kS]
theorem SetT.at {w : World} {h h' : Heap} {a : Addr} {S : Str → Bool} {n : Nat} (R : SetT w h a S n) (k : ∀ o, h.get? a = some o → h'.get? a = some o) : SetT w h' a S n := by
  obtain ⟨o, es, ep, t, e, r⟩ := R
  exact ⟨o, es, ep, t, k o e, r⟩
theorem SetT.lt {w : World} {h : Heap} {a : Addr} {S : Str → Bool} {n : Nat} (R : SetT w h a S n) : a < h.objs.size := by
  obtain ⟨_, _, _, _, e, _⟩ := R
  exact Heap.lt_size e
theorem fresh {h : Heap} (w : World) : SetT w (h.push { cls := .type "set", dict := none, data := .set #[] 0 (.fresh 0 0 (!w.params.followText "set-order")) }) h.objs.size (fun _ => false) 0 := by
  refine ⟨_, #[], 0, _, Heap.get?_push_size _ rfl, rfl, ⟨⟨rfl, rfl, rfl⟩, rfl, fun e inn => ?_, by simp, fun x => by simp, by decide, by rfl, List.Pairwise.nil, ?_⟩⟩
  · simp at inn
  · show _ ∨ (!w.params.followText "set-order") = true
    cases w.params.followText "set-order" with
    | false => exact Or.inr rfl
    | true => exact Or.inl rfl
section
variable {P : Program} {w : World} {A : Around} {E : Value → Shared → Prop} {s : Shared} {a : Addr} {S : Str → Bool} {n : Nat}
/-- the new payload is laid, all anew where the table is too full -/
theorem tailT {note : Bool → Sem Unit} (free : ∀ (b : Bool) (s1 : Shared) (R : Unit → Shared → Prop), R () s1 → wpAny (model P w) A (note b) R E s1) {o : Obj} {es es1 : Array Ent} {ep : Nat} {t t1 : SetTable} {S1 : Str → Bool} (here : s.heap.get? a = some o) (old : o.data = .set es ep t) (ex : o.ExactSet)
    (good : ∀ e ∈ es1.toList, ∃ x u, e = (hashStr w x, Value.str x u)) (nd : (es1.toList.map kS).Nodup) (mem : ∀ x, S1 x = true ↔ x ∈ es1.toList.map kS) (few : es1.size < scanBound) (fit : t1.fits es1.size = true) (ris : Ris t1.place.toList) (led : w.params.followText "set-order" = true ∨ t1.led = true)
    {dum : Bool} {R : Option Bool → Shared → Prop} (k : ∀ h', Heap.SameBut a s.heap h' → SetT w h' a S1 es1.size → R (some true) { s with heap := h' }) :
    wpAny (model P w) A (do
      storeSet a es1 t1
      if (!dum && t1.tooFull) = true then do
        note (relayAll t1 es1 (SetTable.grown es1.size)).2.2
        storeSet a (relayAll t1 es1 (SetTable.grown es1.size)).1 (relayAll t1 es1 (SetTable.grown es1.size)).2.1
        pure (some true)
      else pure (some true)) R E s := by
  apply wpAny_bind
  refine wpAny_storeSet_of here old ?_ (fits_of_scanBound few)
  have here1 := L2.store_at (es' := es1) (t' := t1) here old
  have same1 := Heap.SameBut.update s.heap a (Obj.putSet es1 t1)
  split
  · have perm := relayAll_perm t1 es1 (SetTable.grown es1.size)
    have fit2 := relayAll_fits t1 es1 (SetTable.grown es1.size)
    have ris2 := relayAll_ris t1 es1 (SetTable.grown es1.size)
    have led2 := relayAll_led t1 es1 (SetTable.grown es1.size)
    revert perm fit2 ris2 led2
    generalize relayAll t1 es1 (SetTable.grown es1.size) = z
    obtain ⟨es2, t2, gave⟩ := z
    intro perm fit2 ris2 led2
    have size : es2.size = es1.size := by rw [← Array.length_toList, perm.length_eq, Array.length_toList]
    have few2 : es2.size < scanBound := size ▸ few
    apply wpAny_bind
    apply free
    apply wpAny_bind
    refine wpAny_storeSet_of here1 rfl ?_ (fits_of_scanBound few2)
    have here2 := L2.store_at (es' := es2) (t' := t2) here1 rfl
    refine wpAny_pure (k _ (same1.trans (Heap.SameBut.update _ a _)) ⟨_, es2, _, t2, here2, size, ⟨ex, rfl, fun e inn => good e (perm.mem_iff.mp inn), (perm.map kS).nodup_iff.mpr nd, fun x => (mem x).trans (perm.map kS).mem_iff.symm, few2, fit2, ris2, ?_⟩⟩)
    exact led.imp id fun z => (show t2.led = t1.led from led2).trans z
  · exact wpAny_pure (k _ same1 ⟨_, es1, _, t1, here1, rfl, ⟨ex, rfl, good, nd, mem, few, fit, ris, led⟩⟩)
/-- a text added -/
theorem addT {x : Str} {u : Tok} {Q : Bool → Shared → Prop} (R : SetT w s.heap a S n) (room : n + 1 < scanBound) (k : ∀ h', Heap.SameBut a s.heap h' → SetT w h' a (fun y => S y || decide (y = x)) (if S x = true then n else n + 1) → Q (!S x) { s with heap := h' }) :
    wpAny (model P w) A (setAddHashed a (.str x u) (hashStr w x)) Q E s := by
  obtain ⟨o, es, ep, t, here, size, T⟩ := R
  have own : (PySem.strKind P w).is x (.str x u) = true := PySem.strKind_is P w x u
  have el := T.elems (P := P)
  have keyMem : ∀ y, y ∈ es.toList.map kS ↔ ∃ e ∈ es.toList, (PySem.strKind P w).is y e.2 = true := fun y => by
    rw [List.mem_map]
    constructor
    · rintro ⟨e, inn, q⟩
      exact ⟨e, inn, (good_key (T.good e inn) y).2 q⟩
    · rintro ⟨e, inn, q⟩
      exact ⟨e, inn, (good_key (T.good e inn) y).1 q⟩
  unfold setAddHashed setAddHashedIn
  apply wpAny_holding
  apply wpAny_bind
  refine wpAny_setState_of here T.da T.fit ?_
  dsimp only
  rw [byScan_of (show (Value.str x u).scannable = true from rfl) T.few el]
  simp only [↓reduceIte]
  unfold setAddByScan
  apply wpAny_bind
  apply wpAny_bind
  apply wpAny_rule
  apply wpAny_bind
  refine wpAny_setScan_of own here T.da T.fit el ?_
  cases find : List.findIdx? (fun e => (PySem.strKind P w).is x e.2) es.toList with
  | some j =>
    dsimp only
    obtain ⟨lt, is, _⟩ := List.findIdx?_eq_some_iff_getElem.mp find
    have yes : S x = true := (T.mem x).2 ((keyMem x).2 ⟨es.toList[j], List.getElem_mem lt, is⟩)
    have q := k s.heap (Heap.SameBut.refl a s.heap)
    rw [if_pos yes, yes] at q
    refine wpAny_pure (wpAny_pure (q ⟨o, es, ep, t, here, size, ⟨T.ex, T.da, T.good, T.nd, fun y => ?_, T.few, T.fit, T.ris, T.led⟩⟩))
    rw [Bool.or_eq_true, decide_eq_true_eq, ← T.mem y]
    exact ⟨fun z => z.elim id fun e => e ▸ yes, Or.inl⟩
  | none =>
    dsimp only
    have notIn : x ∉ es.toList.map kS := fun z => by
      obtain ⟨e, inn, q⟩ := (keyMem x).1 z
      have c := List.findIdx?_eq_none_iff.mp find e inn
      rw [q] at c
      cases c
    have no : S x = false := Bool.eq_false_iff.mpr fun q => notIn ((T.mem x).1 q)
    have free : ∀ (b : Bool) (s1 : Shared) (R : Unit → Shared → Prop), R () s1 → wpAny (model P w) A (match b with | true => rule "set.scan.the-table-gave-way" | false => pure ()) R E s1 := by
      intro b s1 R q
      cases b with
      | false => exact wpAny_pure q
      | true => exact wpAny_rule q
    have perm := layNew_perm t es (hashStr w x) (.str x u)
    have fit1 := layNew_fits t es (hashStr w x) (.str x u)
    have ris1 := layNew_ris t es (hashStr w x) (.str x u) T.ris
    have led1 := layNew_led t es (hashStr w x) (.str x u)
    revert perm fit1 ris1 led1
    generalize layNew t es (hashStr w x) (.str x u) = z
    obtain ⟨es1, t1, dum, gave⟩ := z
    intro perm fit1 ris1 led1
    dsimp only at perm fit1 ris1 led1 ⊢
    rw [Array.toList_push] at perm
    have cons : es1.toList.Perm ((hashStr w x, Value.str x u) :: es.toList) := perm.trans (List.perm_append_singleton _ _)
    have keys : (es1.toList.map kS).Perm (x :: es.toList.map kS) := cons.map kS
    have good : ∀ e ∈ es1.toList, ∃ y v, e = (hashStr w y, Value.str y v) := fun e inn => by
      rcases List.mem_cons.mp (cons.mem_iff.mp inn) with z | z
      · exact ⟨x, u, z⟩
      · exact T.good e z
    have nd : (es1.toList.map kS).Nodup := keys.nodup_iff.mpr (List.nodup_cons.mpr ⟨notIn, T.nd⟩)
    have mem : ∀ y, (S y || decide (y = x)) = true ↔ y ∈ es1.toList.map kS := fun y => by
      rw [Bool.or_eq_true, decide_eq_true_eq, T.mem y, keys.mem_iff, List.mem_cons]
      exact Or.comm
    have size1 : es1.size = n + 1 := by rw [← Array.length_toList, cons.length_eq, List.length_cons, Array.length_toList, size]
    have few : es1.size < scanBound := size1 ▸ room
    have led : w.params.followText "set-order" = true ∨ t1.led = true := T.led.imp id fun z => led1.trans z
    have fin : ∀ h', Heap.SameBut a s.heap h' → SetT w h' a (fun y => S y || decide (y = x)) es1.size → Q true { s with heap := h' } := fun h' sb r => by
      have q := k h' sb
      rw [no, if_neg Bool.false_ne_true] at q
      rw [size1] at r
      exact q r
    apply wpAny_bind
    apply free
    split
    · apply wpAny_bind
      rw [hashByValue_scannable 8 (show (Value.str x u).scannable = true from rfl)]
      apply wpAny_pure
      refine tailT free here T.da T.ex good nd mem few ?_ ?_ ?_ fun h' sb r => ?_
      · first | (split <;> first | exact fit1 | exact SetTable.fits_plain_off fit1) | exact fit1
      · first | (split <;> exact ris1) | exact ris1
      · first | (split <;> exact led) | exact led
      · exact wpAny_pure (fin h' sb r)
    · apply wpAny_bind
      apply wpAny_pure
      simp only [↓reduceIte]
      refine tailT free here T.da T.ex good nd mem few fit1 ris1 led fun h' sb r => ?_
      exact wpAny_pure (fin h' sb r)
/-- sorted(set of texts) -/
theorem sortT {Q : Value → Shared → Prop} (R : SetT w s.heap a S n) (hh : A.handled = none) (hn : n ≤ sizeLine)
    (k : ∀ s' p (out : Array Value) (c : Nat) (ys : List Str), (∀ b o, s.heap.get? b = some o → s'.heap.get? b = some o) → s'.gens = s.gens → s'.os = s.os → s.heap.objs.size ≤ p → s'.heap.get? p = some (seqObj "list" out c) → StrsAre out.toList ys → sortedS ys = true → ys.Nodup → (∀ y, y ∈ ys ↔ S y = true) → ys.length = n → Q (.ref p) s') :
    wpAny (model P w) A (call (.builtin "sorted") [.ref a]) Q E s := by
  obtain ⟨o, es, ep, t, here, size, T⟩ := R
  refine Calls.call_function_entry kind_sorted plain_sorted entry_sorted (args_sorted1 _) ?_
  unfold Builtin.«sorted»
  refine wpAny_bind (m := checkCount "sorted" 1 1 _) (wpAny_pure ?_)
  apply wpAny_bind
  refine collect_set (A := A.in1) hh ⟨o, here, T.ex.1, T.da⟩ T.fit T.few T.ris T.led fun s1 vs keep grown gens os perm => ?_
  have len : vs.length = n := by rw [perm.length_eq, List.length_map, Array.length_toList, size]
  have allS : ∀ l : List Ent, (∀ e ∈ l, ∃ x u, e = (hashStr w x, Value.str x u)) → StrsAre (l.map (·.2)) (l.map kS) := by
    intro l
    induction l with
    | nil => exact fun _ => .nil
    | cons e r ih =>
      intro g
      obtain ⟨x, u, rfl⟩ := g e List.mem_cons_self
      exact .cons x u (ih fun f inn => g f (List.mem_cons_of_mem _ inn))
  have ofPerm : ∀ {l1 l2 : List Value}, l1.Perm l2 → ∀ {ys : List Str}, StrsAre l2 ys → ∃ zs, StrsAre l1 zs ∧ zs.Perm ys := by
    intro l1 l2 pm
    induction pm with
    | nil => exact fun h => ⟨_, h, List.Perm.refl _⟩
    | cons v _ ih =>
      intro ys h
      cases h with
      | cons x u h =>
        obtain ⟨zs, h1, h2⟩ := ih h
        exact ⟨x :: zs, .cons x u h1, h2.cons x⟩
    | swap v v' l =>
      intro ys h
      cases h with
      | cons x u h =>
        cases h with
        | cons y u' h => exact ⟨_, .cons y u' (.cons x u h), List.Perm.swap _ _ _⟩
    | trans _ _ ih1 ih2 =>
      intro ys h
      obtain ⟨zs, h1, h2⟩ := ih2 h
      obtain ⟨ws, h3, h4⟩ := ih1 h1
      exact ⟨ws, h3, h4.trans h2⟩
  obtain ⟨zs, hS, pz⟩ := ofPerm perm (allS _ T.good)
  apply wpAny_bind
  refine wpAny_newList ?_ (by rw [len]; exact hn)
  have hL : (s1.heap.push (seqObj "list" vs.toArray 0)).get? s1.heap.objs.size = some (seqObj "list" vs.toArray 0) := Heap.get?_push_size _ rfl
  apply wpAny_bind
  apply wpAny_holding
  refine wpAny_call_entry slot_list_sort ⟨_, hL, rfl⟩ entry_list_sort ?_ (args_list_sort _)
  refine list_sort_treeKAny strKind_oneLt hL hS.keysOf (fun v1 v2 rest e => keyKind_strs (by rw [← e]; exact hS)) (by rw [len]; exact hn) fun st' hp hs => ⟨_, rfl, ?_⟩
  obtain ⟨ys, a1, a2, a3⟩ := sorted_out_str hS hp hs
  generalize (arrOf st').map (·.2) = out at a1
  obtain ⟨c, hc⟩ := sortedHeap_at (vs := vs) (out := out) hL
  have pk : ys.Perm (es.toList.map kS) := a2.trans pz
  refine wpAny_pure ⟨_, rfl, k _ s1.heap.objs.size out c ys (fun b u e => ?_) gens os grown hc a1 a3 (pk.nodup_iff.mpr T.nd) (fun y => by rw [pk.mem_iff, ← T.mem y]) ?_⟩
  · have q := keep b u e
    have lt := Heap.lt_size q
    show (sortedHeap (s1.heap.push (seqObj "list" vs.toArray 0)) s1.heap.objs.size vs out).get? b = some u
    rw [sortedHeap_old (Nat.ne_of_lt lt) (by rw [size_push']; exact Nat.lt_succ_of_lt lt)]
    exact Heap.get?_push_of_some _ q
  · rw [pk.length_eq, List.length_map, Array.length_toList, size]
end
end MXm
/-! {x for .. in ..} of texts, sorted of it. -/
namespace MXn
open PySem PySem.Spec PyProof.Rows L2 MXm PpSet
def SetTO (w : World) (a : Addr) (S : Str → Bool) (n : Nat) : HO := .ext fun h => SetT w h a S n
theorem obj_of {w : World} {P : Program} {H : Hp} {h : Heap} {a : Addr} {S : Str → Bool} {n : Nat} (R : SetT w h a S n) : ObjOk P w H h a (SetTO w a S n) := by
  have ⟨o, _, _, _, e, _⟩ := R
  exact ⟨R, ⟨o, e⟩, fun h1 h2 p k => SetT.at p k⟩
section
variable {X : Cx}
theorem of_obj {pins : List (Addr × Obj)} {σ : L2.St} {H : Hp} {s : Shared} {a : Addr} {S : Str → Bool} {n : Nat} (I : Inv X pins σ H s) (e : H a = some (SetTO X.w a S n)) : SetT X.w s.heap a S n := (I.hok a _ e).1
theorem add_call {pins : List (Addr × Obj)} {σ : L2.St} {H : Hp} {s : Shared} {E : Value → Shared → Prop} {D : Addr} {S : Str → Bool} {n : Nat} {x : Str} {u : Tok} {Q : Value → Shared → Prop} (I : Inv X pins σ H s) (e : H D = some (SetTO X.w D S n)) (room : n + 1 < scanBound)
    (k : ∀ s', Inv X pins σ (upd H D (SetTO X.w D (fun y => S y || decide (y = x)) (if S x = true then n else n + 1))) s' → Q .none s') : wpAny (model X.prog X.w) X.A (call (.builtin "set.add") [.ref D, .str x u]) Q E s := by
  have R := of_obj I e
  have ⟨o, es, ep, t, here, _, T⟩ := R
  refine wpAny_call_entry F.slot_set_add ⟨o, here, T.ex.1⟩ F.entry_set_add ?_ (F.args_set_add_2 _ _)
  unfold Builtin.«set.add» Builtin.Frozenset.oneOther
  simp only [List.isEmpty_nil, bind_assoc]
  unfold Builtin.Frozenset.addrOf setAdd
  apply wpAny_bind
  apply wpAny_pure
  try dsimp only
  apply wpAny_bind
  apply wpAny_pure
  try dsimp only
  apply wpAny_bind
  apply wpAny_holding
  apply wpAny_bind
  refine (PySem.strKind X.prog X.w).pyHash (k := x) (PySem.strKind_is _ _ x u) ?_
  refine addT (s := { s with toks := s.toks + 1 }) R room fun h' sb new => ?_
  show wpAny _ _ (ret Value.none) _ _ _
  have there : ∃ v, h'.get? D = some v := by
    have ⟨o', _, _, _, e', _⟩ := new
    exact ⟨o', e'⟩
  exact wpAny_pure ⟨_, rfl, k _ (I.write (e := D) (t' := s.toks + 1) (by rw [e]; trivial) (.inl rfl) (fun b v nb hv => (sb.2 b nb).trans hv) there (obj_of new))⟩
/-- the wish of such a comprehension -/
def tSt (w : World) (wi : TI) (g : TG) (tt : TT) (te : TE) (vs : List Nat) : TE := fun σ H Q => wi σ H fun J H1 => ∀ D, H1 D = none → ∃ W : Nat → Nat → Hp → Prop, (∃ m, W 0 m (upd H1 D (SetTO w D (fun _ => false) 0))) ∧ ∀ i m H, W i m H →
  (J.stop i H ∧ Q (.ref D) H) ∨ (J.go i H ∧ ∃ Nx : Hp → Prop, (∀ H', Nx H' → ∃ m', m' < m ∧ W (i + 1) m' H') ∧ ∀ x H', J.yld i H x H' → g x (wipe σ vs) H' fun σ2 H2 => wipe σ2 vs = wipe σ vs ∧ tt σ2 H2 fun b H3 =>
    if b = true then te σ2 H3 fun y H4 => ∃ (c : Str) (S : Str → Bool) (n : Nat), y = .str c ∧ H4 D = some (SetTO w D S n) ∧ n + 1 < scanBound ∧ Nx (upd H4 D (SetTO w D (fun z => S z || decide (z = c)) (if S c = true then n else n + 1))) else Nx H3)
theorem pe_st {elt tg iter : Expr} {ifs : List Expr} {scope : Scope} {own : List (PySem.Str × Nat)} {pos : Pos} {wi : TI} {g : TG} {tt : TT} {te : TE} (calm : X.calm = true) (nd : X.N.Nodup) (hi : PI X tg iter wi) (ok : BlkOk X.N X.env.scope scope own)
    (hg : ∀ (s : Shared) (H : Hp) (C : Addr) (cl : List (PySem.Str × Addr)) (fp : List Addr), PG (X.blk s H scope (compEnvC scope cl C X.env) fp) tg g) (ht : ∀ (s : Shared) (H : Hp) (C : Addr) (cl : List (PySem.Str × Addr)) (fp : List Addr), PTs (X.blk s H scope (compEnvC scope cl C X.env) fp) ifs tt)
    (he : ∀ (s : Shared) (H : Hp) (C : Addr) (cl : List (PySem.Str × Addr)) (fp : List Addr), PE (X.blk s H scope (compEnvC scope cl C X.env) fp) elt te) (hs : ∀ x, foldedSetIterable iter X.env x = pure x := by intro _; rfl) :
    PE X (.SetComp elt [⟨tg, iter, ifs, 0⟩] scope pos) (tSt X.w wi g tt te (own.map (·.2))) := by
  constructor
  intro pins s σ H Q I want
  rw [eval_SetComp]
  have cells : ∀ y ∈ scope.names, y.2 = .free → ∃ c, X.env.cells.lookup y.1 = some c := fun y hy e => by
    rcases ok.free y hy e with z | z
    · exact I.ok.has _ (.inl z)
    · exact I.ok.has _ (.inr z)
  refine wpAny_comprehension_free rfl hs (closure_ok cells) ok.kind (fun y hy e => by rw [ok.uniq y hy, e]) (thn (hi.run pins s σ H _ I want) fun xv s1 hx => thn hx fun itv s2 h2 => ?_)
  obtain ⟨it, fp, tn, J, H2, rfl, I2, T, at2, off2, goal⟩ := h2
  refine newSet_ok (newEnv_comp ?_)
  generalize eD : s2.heap.objs.size = D
  have nD : H2 D = none := I2.hok.fresh (Nat.le_of_eq eD)
  obtain ⟨W, ⟨m0, w0⟩, turn⟩ := goal D nD
  generalize e3 : ({ s2 with heap := s2.heap.push { cls := .type "set", dict := none, data := .set #[] 0 (.fresh 0 0 (!X.w.params.followText "set-order")) } } : Shared) = s3
  have heap3 : s3.heap = s2.heap.push { cls := .type "set", dict := none, data := .set #[] 0 (.fresh 0 0 (!X.w.params.followText "set-order")) } := by rw [← e3]
  have I3 : Inv X pins σ (upd H2 D (SetTO X.w D (fun _ => false) 0)) s3 := by
    subst e3
    subst eD
    exact I2.laid (t' := s2.toks) (fun b o e => Heap.get?_push_of_some _ e) (Nat.le_refl _) (obj_of (fresh X.w))
  have below : ∀ b ∈ fp, b < s2.heap.objs.size := fun b inn => by
    obtain ⟨o, e, _⟩ := T.obj _ _ at2 b inn
    exact Heap.lt_size e
  have off3 : ∀ b ∈ fp, FpOk X pins (upd H2 D (SetTO X.w D (fun _ => false) 0)) b ∧ b < s3.heap.objs.size := fun b inn => by
    have lt := below b inn
    constructor
    · refine ⟨?_, (off2 b inn).2⟩
      rw [upd_ne (by rw [← eD]; exact Nat.ne_of_lt lt)]
      exact (off2 b inn).1
    · rw [heap3, Heap.size_push]
      exact Nat.lt_succ_of_lt lt
  have at3 : tn 0 s3.heap := T.keep _ _ _ at2 fun b _ o e => by
    rw [heap3]
    exact Heap.get?_push_of_some _ e
  have I4 := block_start I3 ok nd off3
  have pg := hg s3 (upd H2 D (SetTO X.w D (fun _ => false) 0)) s3.heap.objs.size (cellsFrom (s3.heap.objs.size + 1) scope.names (cloFrom X.env.cells scope.names [])) fp
  have pt := ht s3 (upd H2 D (SetTO X.w D (fun _ => false) 0)) s3.heap.objs.size (cellsFrom (s3.heap.objs.size + 1) scope.names (cloFrom X.env.cells scope.names [])) fp
  have pe := he s3 (upd H2 D (SetTO X.w D (fun _ => false) 0)) s3.heap.objs.size (cellsFrom (s3.heap.objs.size + 1) scope.names (cloFrom X.env.cells scope.names [])) fp
  have off : ∀ b ∈ fp, (upd H2 D (SetTO X.w D (fun _ => false) 0)) b = none := fun b inn => (off3 b inn).1.1
  show codeAny _ _ (.compStart (.SetComp elt [⟨tg, iter, ifs, 0⟩] scope pos) 0 (.ref it) (.ref D) (compEnvC scope (cellsFrom (s3.heap.objs.size + 1) scope.names (cloFrom X.env.cells scope.names [])) s3.heap.objs.size X.env)) _ { s3 with heap := pushCells (s3.heap.push { cls := .type "dict", data := .dict #[] }) scope.names }
  generalize eC : compEnvC scope (cellsFrom (s3.heap.objs.size + 1) scope.names (cloFrom X.env.cells scope.names [])) s3.heap.objs.size X.env = ce at I4 pg pt pe ⊢
  have loc : ce.locals = s3.heap.objs.size := by rw [← eC]; rfl
  generalize upd H2 D (SetTO X.w D (fun _ => false) 0) = H3 at I3 I4 pg pt pe w0 off off3
  generalize e4 : ({ s3 with heap := pushCells (s3.heap.push { cls := .type "dict", data := .dict #[] }) scope.names } : Shared) = s4 at I4 ⊢
  have at4 : tn 0 s4.heap := T.keep _ _ _ at3 fun b _ o e => by
    rw [← e4]
    exact pushCells_keeps _ _ _ _ (Heap.get?_push_of_some _ e)
  have still : ∀ {τ : L2.St} {G : Hp} {s' : Shared}, Inv (X.blk s3 H3 scope ce fp) [] τ G s' → (∀ b ∈ fp, G b = none) → ∀ b ∈ fp, FpOk (X.blk s3 H3 scope ce fp) [] G b := by
    intro τ G s' I' no b inn
    exact ⟨no b inn, (I'.ok.exf b inn).1, I'.ok.exfs b inn, .inl inn, fun x c e => (I'.ok.exf b inn).2 x c e, fun p hp => absurd (show p ∈ ([] : List (Addr × Obj)) ++ [] from hp) (by simp)⟩
  refine codeAny_compStart_set ?_ (T.self X.A 0 _ _ _ at4 ?_)
  all_goals
    refine compLoopS_any (fun n s' => ∃ i G, Inv (X.blk s3 H3 scope ce fp) [] (wipe σ (own.map (·.2))) G s' ∧ tn i s'.heap ∧ (∀ b ∈ fp, G b = none) ∧ W i n G) ?_ m0 ⟨0, H3, I4, at4, off, w0⟩
    rintro n s5 ⟨i, G5, I5, at5, off5, w5⟩
    rcases turn i n G5 w5 with ⟨stop, done⟩ | ⟨go, Nx, next, step⟩
    · have ends := T.done (X.blk s3 H3 scope ce fp) rfl rfl rfl calm i [] s5 _ G5 (fun _ _ => False) I5 (still I5 off5) at5 stop
      refine thnF ends fun r s6 z => ?_
      obtain ⟨rfl, I6⟩ := z
      have I7 : Inv X pins σ G5 s6 := I3.call' (ch := fp) I6.os I6.base I6.hok I6.bare fun b inn => ⟨(off3 b inn).1.2.2.2.1, (off3 b inn).1.2.1, (off3 b inn).1.2.2.2.2.1, (off3 b inn).1.2.2.2.2.2⟩
      have nC : G5 s3.heap.objs.size = none := loc ▸ (show G5 ce.locals = none from I6.free)
      obtain ⟨m, hn, _⟩ := I6.loc
      have hn2 : s6.heap.Ns s3.heap.objs.size m := loc ▸ (show s6.heap.Ns ce.locals m from hn)
      refine ⟨m, hn2, fun h'' sb => ?_⟩
      obtain ⟨f0, f1, f2, f3, f4, f5⟩ := I3.fpOk (Nat.le_refl _) nC
      exact ⟨.ref D, G5, I7.turned (t' := s6.toks) (fun b o nb e => (sb.2 b nb).trans e) f0 f1 f3 f4 f5, rfl, done⟩
    · have more := T.item (X.blk s3 H3 scope ce fp) rfl rfl rfl calm i [] s5 _ G5 (fun _ _ => False) I5 (still I5 off5) at5 go
      refine thnF more fun r s6 z => ?_
      obtain ⟨u, rfl, h6⟩ := z
      refine thnF h6 fun _ s7 z => ?_
      obtain ⟨x, G7, I7, r7, y7, at7, off7⟩ := z
      have I8 := I7.pinned (still I7 off7) (T.obj _ _ at7)
      refine thnF (pg.run _ s7 _ G7 x u _ I8 r7 (step x G7 y7)) fun _ s8 z => ?_
      obtain ⟨τ, G8, J8, same, q8⟩ := z
      refine thnF (pt.run _ s8 τ G8 _ J8 q8) fun b s9 z => ?_
      obtain ⟨G9, J9, q9⟩ := z
      have over : ∀ {s' : Shared} {G' : Hp}, Inv (X.blk s3 H3 scope ce fp) ([] ++ pinsAt fp s7.heap) τ G' s' → Nx G' → ∃ m, m < n ∧ ∃ i G, Inv (X.blk s3 H3 scope ce fp) [] (wipe σ (own.map (·.2))) G s' ∧ tn i s'.heap ∧ (∀ b ∈ fp, G b = none) ∧ W i m G := by
        intro s' G' I' nx
        obtain ⟨m', lt, w'⟩ := next G' nx
        have kept : ∀ b ∈ fp, ∀ o, s7.heap.get? b = some o → s'.heap.get? b = some o ∧ G' b = none := fun b inn o e => by
          have z := I'.pin (b, o) (List.mem_append_right _ (List.mem_append_right _ (mem_pinsAt inn e)))
          exact ⟨z.1, z.2.1⟩
        have len : (wipe σ (own.map (·.2))).length = τ.length := by rw [← same, wipe_length]
        refine ⟨m', lt, i + 1, G', (I'.unpinned (pins := [])).weak len (fun j v e => ?_), T.keep _ _ _ at7 fun b inn o e => (kept b inn o e).1, fun b inn => ?_, w'⟩
        · rw [← same] at e
          exact (wipe_some e).1
        · obtain ⟨o, e, _⟩ := T.obj _ _ at7 b inn
          exact (kept b inn o e).2
      cases b with
      | false =>
        simp only [Bool.false_eq_true, if_false] at q9 ⊢
        exact over J9 q9
      | true =>
        simp only [if_true] at q9 ⊢
        refine thnF (pe.run _ s9 τ G9 _ J9 q9) fun v s10 z => ?_
        obtain ⟨y, G10, J10, r10, c, S0, n0, rfl, hD, room, nx⟩ := z
        obtain ⟨tk, rfl⟩ := (show ∃ t, v = Value.str c t from r10)
        exact add_call (X := X.blk s3 H3 scope ce fp) J10 hD room fun s11 J11 => over J11 nx
/-- sorted of such a set -/
def rSortT (w : World) : List V → Hp → VK → Prop := fun vs H Q => ∃ (a : Addr) (S : Str → Bool) (n : Nat), vs = [V.ref a] ∧ H a = some (SetTO w a S n) ∧ n ≤ sizeLine ∧
  ∀ (ys : List Str) (p : Addr), sortedS ys = true → ys.Nodup → (∀ y, y ∈ ys ↔ S y = true) → H p = none → Q (.ref p) (upd H p (.lst (ys.map V.str)))
theorem cr_sortT (calm : X.calm = true) : CallR X (.builtin "sorted") (rSortT X.w) := by
  intro pins s σ H vs us Q I r h
  obtain ⟨a, S, n, rfl, e, hn, k⟩ := h
  rw [Vals.ref1 r]
  refine sortT (of_obj I e) (I.ok.hd calm) hn fun s' p out c ys keep g o hp hg hi hs nd hm hl => ?_
  have len : (ys.map V.str).length ≤ sizeLine := by rw [List.length_map, hl]; exact hn
  have free : H p = none := I.hok.fresh hp
  have J : Inv X pins σ (upd H p (.lst (ys.map V.str))) { s with heap := s'.heap, gens := s'.gens, drawn := s'.drawn, toks := s'.toks } := by
    refine I.call (ch := []) (Un.laid keep hp free) (I.hok.laid keep hp ⟨len, out.toList, c, vals_of_strs hi, hg⟩) ?_ (fun _ z => nomatch z)
    rw [g]
    exact I.bare
  have whole : s' = { s with heap := s'.heap, gens := s'.gens, drawn := s'.drawn, toks := s'.toks } := by
    cases s'
    cases s
    cases o
    rfl
  rw [whole]
  exact ⟨.ref p, _, J, rfl, k ys p hs nd hm free⟩
end
end MXn
namespace MXn
open PySem PySem.Spec PyProof.Rows L2 MXm
/-- over a list that the block leaves as it is -/
theorem st_list {w : World} {K : PySem.W.Frag} {a : Addr} {xs : List V} {g : TG} {tt : TT} {te : TE} {vs : List Nat} {σ : L2.St} {H1 : Hp} {D : Addr} {R : Hp → Prop} (I : Nat → Hp → Prop) (start : I 0 (upd H1 D (SetTO w D (fun _ => false) 0))) (there : ∀ i H, i ≤ xs.length → I i H → SqL K H a xs)
    (turn : ∀ i x H, xs[i]? = some x → I i H → g x (wipe σ vs) H fun σ2 H2 => wipe σ2 vs = wipe σ vs ∧ tt σ2 H2 fun b H3 => if b = true then te σ2 H3 fun y H4 => ∃ (c : Str) (S : Str → Bool) (n : Nat), y = .str c ∧ H4 D = some (SetTO w D S n) ∧ n + 1 < scanBound ∧
      I (i + 1) (upd H4 D (SetTO w D (fun z => S z || decide (z = c)) (if S c = true then n else n + 1))) else I (i + 1) H3) (fin : ∀ H, I xs.length H → R H) :
    ∃ W : Nat → Nat → Hp → Prop, (∃ m, W 0 m (upd H1 D (SetTO w D (fun _ => false) 0))) ∧ ∀ i m H, W i m H → ((Itl K a).stop i H ∧ R H) ∨ ((Itl K a).go i H ∧ ∃ Nx : Hp → Prop, (∀ H', Nx H' → ∃ m', m' < m ∧ W (i + 1) m' H') ∧ ∀ x H', (Itl K a).yld i H x H' →
      g x (wipe σ vs) H' fun σ2 H2 => wipe σ2 vs = wipe σ vs ∧ tt σ2 H2 fun b H3 => if b = true then te σ2 H3 fun y H4 => ∃ (c : Str) (S : Str → Bool) (n : Nat), y = .str c ∧ H4 D = some (SetTO w D S n) ∧ n + 1 < scanBound ∧ Nx (upd H4 D (SetTO w D (fun z => S z || decide (z = c)) (if S c = true then n else n + 1))) else Nx H3) := by
  refine ⟨fun i m H => m = xs.length - i ∧ i ≤ xs.length ∧ I i H, ⟨_, by rw [Nat.sub_zero], Nat.zero_le _, start⟩, ?_⟩
  rintro i m H ⟨rfl, le, inv⟩
  have seq := there i H le inv
  rcases Nat.lt_or_ge i xs.length with lt | ge
  · refine Or.inr ⟨⟨xs, xs[i], seq, by simp [lt]⟩, I (i + 1), fun H' inv' => ⟨xs.length - (i + 1), by omega, rfl, lt, inv'⟩, ?_⟩
    rintro x H' ⟨rfl, y⟩
    exact turn i x _ (y xs seq) inv
  · obtain rfl : i = xs.length := Nat.le_antisymm le ge
    exact Or.inl ⟨⟨xs, seq, Nat.le_refl _⟩, fin H inv⟩
end MXn
/-! What many laws' helpers want: powers of great ints; the creel (three ints in a list at c) and what leaves all but it. -/
namespace LK
open PySem PySem.Spec PyProof.Rows L2
abbrev St := L2.St
/-- i ** j: j not below 0, the outcome of at most 2 ^ 27 bits -/
def CPowB (i j : Int) : Prop := 0 ≤ j ∧ (Builtin.Int.intBits i : Int) * j ≤ 2 ^ 27
theorem op_powB {X : Cx} : OpR X (binaryOp .Pow) (rI CPowB fun i j => .int (i ^ j.toNat)) := opI fun _ _ _ _ _ _ _ hc q => pow_int hc.1 hc.2 q
theorem bits_small {i : Int} {n : Nat} (h : i.natAbs < 2 ^ n) (h0 : 0 < n) : Builtin.Int.intBits i ≤ n := by
  unfold Builtin.Int.intBits
  split
  · omega
  · have := PySem.Flt.log2_lt_of h0 h
    omega
/-- all that was tracked is as it was, but perhaps at c -/
def Bt (c : Addr) (H H' : Hp) : Prop := ∀ b o, b ≠ c → H b = some o → H' b = some o
theorem Bt.refl (c : Addr) (H : Hp) : Bt c H H := fun _ _ _ h => h
theorem Bt.trans {c : Addr} {H H1 H2 : Hp} (a : Bt c H H1) (b : Bt c H1 H2) : Bt c H H2 := fun x o n h => b x o n (a x o n h)
theorem Bt.of {c : Addr} {H H' : Hp} (s : Same H H') : Bt c H H' := fun b o _ h => s b o h
theorem Bt.put {c : Addr} {H : Hp} {o : HO} : Bt c H (upd H c o) := fun b u n h => by
  rw [upd_ne n]
  exact h
/-- the creel at c: three ints, none below 0, the second below 10 ^ 40, the third at most B -/
def CR (H : Hp) (c : Addr) (B : Nat) : Prop := ∃ a b n : Int, H c = some (.lst [.int a, .int b, .int n]) ∧ 0 ≤ a ∧ 0 ≤ b ∧ b < 10 ^ 40 ∧ 0 ≤ n ∧ n ≤ B
theorem CR.mono {H : Hp} {c : Addr} {B B' : Nat} (h : CR H c B) (l : B ≤ B') : CR H c B' := by
  obtain ⟨a, b, n, e, h1, h2, h3, h4, h5⟩ := h
  exact ⟨a, b, n, e, h1, h2, h3, h4, by omega⟩
theorem CR.same {H H' : Hp} {c : Addr} {B : Nat} (h : CR H c B) (s : Same H H') : CR H' c B := by
  obtain ⟨a, b, n, e, r⟩ := h
  exact ⟨a, b, n, s _ _ e, r⟩
theorem CR.ne {H : Hp} {c p : Addr} {B : Nat} {o : HO} (h : CR H c B) (e : H p = some o) (d : ∀ xs, o ≠ .lst xs) : p ≠ c := by
  obtain ⟨a, b, n, ec, _⟩ := h
  exact ne_of e ec (d _)
theorem CR.fresh {H : Hp} {c p : Addr} {B : Nat} (h : CR H c B) (n : H p = none) : c ≠ p := by
  obtain ⟨a, b, k, ec, _⟩ := h
  exact ne_of_none ec n
theorem CR.upd {H : Hp} {c p : Addr} {B : Nat} {o : HO} (h : CR H c B) (n : p ≠ c) : CR (upd H p o) c B := by
  obtain ⟨a, b, k, e, r⟩ := h
  exact ⟨a, b, k, by rw [upd_ne (Ne.symm n)]; exact e, r⟩
/-- a draw: the creel goes on, the digit lies below span -/
def spPly : Sp := fun vs H Q _ => ∃ (c : Addr) (span : Int) (B : Nat), vs = [.ref c, .int span] ∧ 0 < span ∧ span < 2 ^ 60 ∧ CR H c B ∧ B < 10 ^ 12 ∧
  ∀ (d : Int) (H' : Hp), 0 ≤ d → d < span → CR H' c (B + 1) → Bt c H H' → (∀ p, H' p = none ↔ H p = none) → Q (.int d) H'
/-- the creel of a script's cell -/
def spCreel (K : PySem.W.Frag) : Sp := fun vs H Q _ => ∃ (a : Addr) (ns : List Int) (i : Nat), vs = [.ref a, .int i] ∧ SqL K H a (ns.map V.int) ∧ i ≤ 1000 ∧ ∀ (c : Addr) (H' : Hp), H c = none → CR H' c 0 → Same H H' → Q (.ref c) H'
theorem ifT {k : Bool} {A B : Prop} (e : k = true) (h : A) : if k = true then A else B := by
  rw [if_pos e]
  exact h
theorem ifF {k : Bool} {A B : Prop} (e : k = false) (h : B) : if k = true then A else B := by
  rw [e]
  exact iteF h
theorem same_new {H : Hp} {p : Addr} {o : HO} (h : H p = none) : Same H (upd H p o) := fun b u e => by
  rw [upd_ne (ne_of_none e h)]
  exact e
theorem upd_none {H : Hp} {c p : Addr} {o o' : HO} (h : H c = some o) : upd H c o' p = none ↔ H p = none := by
  by_cases e : p = c
  · rw [e, upd_same, h]
    constructor <;> intro z <;> cases z
  · rw [upd_ne e]
/-- the built-ins that the laws and the program name -/
def blts : List Str := ["isinstance", "len", "int", "range", "ValueError", "bool", "list", "set", "enumerate", "tuple", "str", "max", "min", "abs", "sorted", "zip", "all", "sum", "any", "dict", "reversed"]
abbrev Bl (mg : Str → Option Value) : Prop := ∀ n, n ∈ blts → mg n = none
end LK
/-! What is read as data: its class, isinstance, what stays; and the compared helper's promise. -/
namespace LK
open PySem PySem.Spec PyProof.Rows L2
/-- the name of a datum's class -/
def tyN : PyData → String
  | .none => "NoneType"
  | .bool _ => "bool"
  | .int _ => "int"
  | .str _ => "str"
  | .list _ => "list"
  | .tuple _ => "tuple"
  | .dict _ => "dict"
theorem seqL_ty {K : PySem.W.Frag} {H : Hp} {a : Addr} {xs : List V} (h : SqL K H a xs) : TyX K H (.ref a) (.type "list") := by
  rcases h with (h | ⟨o, h⟩) | ⟨o, its, n, h, c, _⟩
  · exact .base (.lst h)
  · exact .base (.frz h)
  · exact .kList h c
theorem seqT_ty {K : PySem.W.Frag} {H : Hp} {a : Addr} {xs : List V} (h : SqT K H a xs) : TyX K H (.ref a) (.type "tuple") := by
  rcases h with (h | ⟨o, h⟩) | ⟨o, its, n, h, c, _⟩
  · exact .base (.tup h)
  · exact .fTuple h
  · exact .kTuple h c
theorem dp_ty {K : PySem.W.Frag} {H : Hp} {v : V} {d : PyData} (h : Dp K H v d) : TyX K H v (.type (tyN d)) := by
  cases h with
  | non => exact .base .non
  | bl b => exact .base (.bl b)
  | int i => exact .base (.int i)
  | str x => exact .base (.str x)
  | lst s _ => exact seqL_ty s
  | tup s _ => exact seqT_ty s
def isK (d : PyData) (T : String) : Bool := (kitB (tyN d) T).getD false
theorem kit_d {K : PySem.W.Frag} {H : Hp} {v : V} {d : PyData} (h : Dp K H v d) (T : String) (hT : T ∈ (["bool", "int", "str", "list", "tuple"] : List String)) : PySem.W.kitOne K (.type (tyN d)) (.type T) = some (isK d T) := by
  refine kit_ty ?_
  unfold isK
  simp only [List.mem_cons, List.not_mem_nil, or_false] at hT
  cases h <;> rcases hT with rfl | rfl | rfl | rfl | rfl <;> simp only [tyN] <;> decide +kernel
theorem kit_lt {K : PySem.W.Frag} {H : Hp} {v : V} {d : PyData} (h : Dp K H v d) : PySem.W.kitAny K (.type (tyN d)) [.type "list", .type "tuple"] = some (isK d "list" || isK d "tuple") := by
  refine kitAny_cons (kit_d h "list" (by decide)) (fun e => ?_) (fun e => by rw [e]; rfl)
  rw [e, Bool.false_or]
  refine kitAny_cons (kit_d h "tuple" (by decide)) (fun e => ?_) (fun e => e)
  rw [e]
  rfl
theorem same_tup {K : PySem.W.Frag} {H H' : Hp} {a : Addr} {xs : List V} (e : Same H H') (h : SqT K H a xs) : SqT K H' a xs := by
  rcases h with (h | ⟨o, h⟩) | h
  · exact .inl (.inl (e _ _ h))
  · exact .inl (.inr ⟨o, e _ _ h⟩)
  · exact .inr h
mutual
theorem dp_same {K : PySem.W.Frag} {H H' : Hp} (e : Same H H') : ∀ {v : V} {d : PyData}, Dp K H v d → Dp K H' v d
  | _, _, .non => .non
  | _, _, .bl b => .bl b
  | _, _, .int i => .int i
  | _, _, .str x => .str x
  | _, _, .lst s a => .lst (e.seq s) (dps_same e a)
  | _, _, .tup s a => .tup (same_tup e s) (dps_same e a)
theorem dps_same {K : PySem.W.Frag} {H H' : Hp} (e : Same H H') : ∀ {vs : List V} {ds : List PyData}, DpAll K H vs ds → DpAll K H' vs ds
  | _, _, .nil => .nil
  | _, _, .cons a r => .cons (dp_same e a) (dps_same e r)
end
/-- a list or a tuple, its items -/
theorem dp_items {K : PySem.W.Frag} {H : Hp} {v : V} {d : PyData} (h : Dp K H v d) (e : (isK d "list" || isK d "tuple") = true) : ∃ (a : Addr) (xs : List V) (ds : List PyData), v = .ref a ∧ (SqL K H a xs ∨ SqT K H a xs) ∧ DpAll K H xs ds ∧ (d = .list ds ∨ d = .tuple ds) := by
  cases h with
  | non => exact absurd e (by decide +kernel)
  | bl b => exact absurd (show (isK (.bool true) "list" || isK (.bool true) "tuple") = true from e) (by decide +kernel)
  | int i => exact absurd (show (isK (.int 0) "list" || isK (.int 0) "tuple") = true from e) (by decide +kernel)
  | str x => exact absurd (show (isK (.str "") "list" || isK (.str "") "tuple") = true from e) (by decide +kernel)
  | lst s a => exact ⟨_, _, _, rfl, .inl s, a, .inl rfl⟩
  | tup s a => exact ⟨_, _, _, rfl, .inr s, a, .inr rfl⟩
theorem dps_len {K : PySem.W.Frag} {H : Hp} : ∀ {vs : List V} {ds : List PyData}, DpAll K H vs ds → vs.length = ds.length
  | _, _, .nil => rfl
  | _, _, .cons _ r => by
    rw [List.length_cons, List.length_cons, dps_len r]
theorem dps_app {K : PySem.W.Frag} {H : Hp} : ∀ {vs us : List V} {ds es : List PyData}, DpAll K H vs ds → DpAll K H us es → DpAll K H (vs ++ us) (ds ++ es)
  | _, _, _, _, .nil, b => b
  | _, _, _, _, .cons a r, b => .cons a (dps_app r b)
theorem dps_at {K : PySem.W.Frag} {H : Hp} : ∀ {vs : List V} {ds : List PyData} {i : Nat}, DpAll K H vs ds → i < ds.length → ∃ v d, vs[i]? = some v ∧ ds[i]? = some d ∧ Dp K H v d
  | _, _, _, .nil, h => absurd h (Nat.not_lt_zero _)
  | _, _, 0, .cons a r, _ => ⟨_, _, rfl, rfl, a⟩
  | _, _, i + 1, .cons a r, h => by
    obtain ⟨v, d, h1, h2, h3⟩ := dps_at (i := i) r (Nat.lt_of_succ_lt_succ h)
    exact ⟨v, d, h1, h2, h3⟩
theorem lay_at : ∀ {ds : List PyData} {i : Nat} {d : PyData}, PyData.canLayAll0 ds = true → ds[i]? = some d → d.canLay0 = true ∧ d.depth ≤ PyData.depthAll ds
  | [], i, d, _, h => by simp at h
  | x :: r, 0, d, h, e => by
    obtain rfl : x = d := by simpa using e
    rw [PyData.canLayAll0, Bool.and_eq_true] at h
    refine ⟨h.1, ?_⟩
    simp only [PyData.depthAll]
    omega
  | x :: r, i + 1, d, h, e => by
    rw [PyData.canLayAll0, Bool.and_eq_true] at h
    obtain ⟨h1, h2⟩ := lay_at (i := i) h.2 (by simpa using e)
    refine ⟨h1, ?_⟩
    simp only [PyData.depthAll]
    omega
theorem shaped_of {d : PyData} (h : d.canLay0 = true) (n : d.depth ≤ 64) : SeqAt.shaped d = true := by
  show (d.canLay0 && decide (d.depth ≤ 64)) = true
  rw [h, decide_eq_true n]
  rfl
mutual
/-- no list or tuple of more than a million items -/
def few : PyData → Bool
  | .list xs => decide (xs.length ≤ 1000000) && fewAll xs
  | .tuple xs => decide (xs.length ≤ 1000000) && fewAll xs
  | _ => true
def fewAll : List PyData → Bool
  | [] => true
  | x :: r => few x && fewAll r
end
theorem few_at : ∀ {ds : List PyData} {i : Nat} {d : PyData}, fewAll ds = true → ds[i]? = some d → few d = true
  | [], i, d, _, h => by simp at h
  | x :: r, 0, d, h, e => by
    obtain rfl : x = d := by simpa using e
    rw [fewAll, Bool.and_eq_true] at h
    exact h.1
  | x :: r, i + 1, d, h, e => by
    rw [fewAll, Bool.and_eq_true] at h
    exact few_at (i := i) h.2 (by simpa using e)
theorem few_items {d : PyData} {ds : List PyData} (h : few d = true) (e : d = .list ds ∨ d = .tuple ds) : ds.length ≤ 1000000 ∧ fewAll ds = true := by
  rcases e with rfl | rfl <;> (unfold few at h; rw [Bool.and_eq_true] at h; exact ⟨of_decide_eq_true h.1, h.2⟩)
theorem rix_of {K : PySem.W.Frag} {H : Hp} {a : Addr} {xs : List V} {j : Nat} {i : Int} {v : V} {Q : VK} (s : SqL K H a xs ∨ SqT K H a xs) (q : xs[j]? = some v) (e : i = (j : Int)) (k : Q v H) : rIx K (.ref a) (.int i) H Q := by
  subst e
  rcases s with s | s
  · exact .inl ⟨a, xs, _, v, rfl, rfl, s, atI_nat q, k⟩
  · exact .inr (.inl ⟨a, xs, _, v, rfl, rfl, s, atI_nat q, k⟩)
theorem seq_same {K : PySem.W.Frag} {H H' : Hp} {a : Addr} {xs : List V} (e : Same H H') (s : SqL K H a xs ∨ SqT K H a xs) : SqL K H' a xs ∨ SqT K H' a xs := by
  rcases s with s | s
  · exact .inl (e.seq s)
  · exact .inr (same_tup e s)
/-- within a comprehension's block the written part must be said by its letter -/
theorem ixq {X : Cx} {K : PySem.W.Frag} (e : X.K = K := by rfl) : IxR X (rIx K) := e ▸ ix_seq
theorem ixl {X : Cx} {K : PySem.W.Frag} (e : X.K = K := by rfl) : IxR X (rIxL K) := e ▸ ix_list
theorem ixt {X : Cx} {K : PySem.W.Frag} (e : X.K = K := by rfl) : IxR X (rIxT K) := e ▸ ix_tup
/-- two things that are read as one datum match -/
def spM (K : PySem.W.Frag) (n : Nat) : Sp := fun vs H Q _ => ∃ (x y : V) (d : PyData), vs = [x, y] ∧ Dp K H x d ∧ Dp K H y d ∧ d.canLay0 = true ∧ d.depth < n ∧ d.depth ≤ 60 ∧ few d = true ∧ ∀ H', Same H H' → Q (.bl true) H'
theorem ok_never {P : Program} {w : World} {K : PySem.W.Frag} {mg : Str → Option Value} {base : Heap} {k : Nat} {f : Addr} {fd : FuncData} {ps : List Str} : FnOk P w K mg base CX0 k f fd ps (spM K 0) :=
  ⟨fun vs H Q E h => by obtain ⟨_, _, d, _, _, _, _, n, _⟩ := h; exact absurd n (Nat.not_lt_zero _), fun A outer s H args us vs Q E _ _ _ _ h => by obtain ⟨_, _, d, _, _, _, _, n, _⟩ := h; exact absurd n (Nat.not_lt_zero _)⟩
end LK
/-! Data that str() may be asked of: no dicts, ints and texts that are not too long. -/
namespace LK
open PySem PySem.Spec PyProof.Rows L2 MXk
mutual
def neat : PyData → Bool
  | .none | .bool _ => true
  | .int i => decide (i.natAbs < 10 ^ 40)
  | .str x => decide (x.cps.size ≤ 40)
  | .list xs | .tuple xs => neatAll xs
  | .dict _ => false
def neatAll : List PyData → Bool
  | [] => true
  | x :: r => neat x && neatAll r
end
/-- neat, and not heavy -/
def Nice (d : PyData) : Prop := neat d = true ∧ d.weight ≤ 400
theorem log_of {i : Int} (h : i.natAbs < 10 ^ 40) : i.natAbs.log2 < 140 := by
  by_cases z : i.natAbs = 0
  · rw [z]
    decide
  · exact (Nat.log2_lt z).mpr (Nat.lt_of_lt_of_le h (by decide))
mutual
theorem neat_shows : ∀ d : PyData, neat d = true → d.showable = true ∧ d.hasDict = false ∧ d.intsShort 41 = true
  | .none, _ => ⟨rfl, rfl, rfl⟩
  | .bool _, _ => ⟨rfl, rfl, rfl⟩
  | .str _, _ => ⟨rfl, rfl, rfl⟩
  | .int i, h => by
    have q : i.natAbs < 10 ^ 40 := of_decide_eq_true h
    refine ⟨decide_eq_true (Nat.lt_trans (log_of q) (by decide)), rfl, decide_eq_true ?_⟩
    have e := int_text_length_le10 (k := 40) (by decide) q
    show (Str.ofString (toString i)).length ≤ 41
    rw [PySem.ofString_length]
    exact e
  | .list xs, h => by
    obtain ⟨a, b, c⟩ := neat_showsAll xs h
    exact ⟨a, b, c⟩
  | .tuple xs, h => by
    obtain ⟨a, b, c⟩ := neat_showsAll xs h
    exact ⟨a, b, c⟩
  | .dict _, h => Bool.noConfusion h
theorem neat_showsAll : ∀ xs : List PyData, neatAll xs = true → PyData.showableAll xs = true ∧ PyData.hasDictAll xs = false ∧ PyData.intsShortAll 41 xs = true
  | [], _ => ⟨rfl, rfl, rfl⟩
  | x :: r, h => by
    rw [neatAll, Bool.and_eq_true] at h
    obtain ⟨a, b, c⟩ := neat_shows x h.1
    obtain ⟨a', b', c'⟩ := neat_showsAll r h.2
    refine ⟨?_, ?_, ?_⟩
    · rw [PyData.showableAll, a, a']
      rfl
    · rw [PyData.hasDictAll, b, b']
      rfl
    · rw [PyData.intsShortAll, c, c']
      rfl
end
theorem shown_ok {d : PyData} (h : neat d = true) (lay : d.canLay0 = true) (w : d.weight ≤ 300000) : d.showable = true ∧ d.hasDict = false ∧ d.shown.length ≤ sizeLine := by
  obtain ⟨a, b, c⟩ := neat_shows d h
  refine ⟨a, b, ?_⟩
  have q := PyData.shown_le 41 (by decide) d (PyData.leavesShort_of_canLay0 41 d lay c)
  rw [sizeLine_eq]
  have q2 : (41 + 2) * d.weight ≤ 43 * 300000 := Nat.mul_le_mul_left _ w
  omega
/-- the text of a datum -/
def textD : PyData → Str
  | .str x => x
  | .none => "None"
  | .bool b => if b then "True" else "False"
  | .int i => Str.ofString (toString i)
  | d => d.shown
def rStrA (K : PySem.W.Frag) : List V → Hp → VK → Prop := fun xs H Q => ∃ (v : V) (d : PyData), xs = [v] ∧ Dp K H v d ∧ neat d = true ∧ d.canLay0 = true ∧ d.weight ≤ 300000 ∧ d.depth ≤ 20 ∧ Q (.str (textD d)) H
section
variable {X : Cx}
theorem cr_strA (hg : X.A.guards = some []) (hu : X.A.units + 64 < cLine) : CallR X (.type "str") (rStrA X.K) := by
  intro pins s σ H xs us Q I r h
  obtain ⟨v, d, rfl, hd, ne, lay, we, dp, q⟩ := h
  obtain ⟨s1, s2, s3⟩ := shown_ok ne lay we
  obtain ⟨u, e, ru⟩ := vals1 r
  subst e
  cases hd with
  | non =>
    cases (show u = Value.none from ru)
    exact PySem.P.str_of_none ⟨.str _, H, I.tok _, ⟨_, rfl⟩, q⟩
  | bl b =>
    cases (show u = Value.bool b from ru)
    exact PySem.P.str_of_bool ⟨.str _, H, I.tok _, ⟨_, rfl⟩, q⟩
  | int i => exact call_str_int pins s σ H _ _ Q I r ⟨i, rfl, of_decide_eq_true s1, q⟩
  | str x => exact SkE.call_str_str pins s σ H _ _ Q I r ⟨x, rfl, q⟩
  | lst sq al => exact cr_strD hg hu pins s σ H _ _ Q I r ⟨_, _, rfl, .lst sq al, s1, s2, dp, s3, q⟩
  | tup sq al => exact cr_strD hg hu pins s σ H _ _ Q I r ⟨_, _, rfl, .tup sq al, s1, s2, dp, s3, q⟩
end
end LK
namespace LK
open PySem
theorem nice_int {i : Int} (h : i.natAbs < 10 ^ 40) : Nice (.int i) := by
  refine ⟨decide_eq_true h, ?_⟩
  unfold PyData.weight
  split
  · exact Nat.zero_le _
  · have := log_of h
    omega
end LK
/-! What str() gives is a text that can be laid. -/
namespace LK
open PySem PySem.Spec PyProof.Rows L2
def OkT (x : Str) : Prop := ∀ c ∈ x.cps.toList, c < 0x110000
theorem okT_iff {x : Str} : PyData.strOk x = true ↔ OkT x := by
  unfold PyData.strOk OkT
  rw [Array.all_eq_true_iff_forall_mem]
  constructor
  · intro h c hc
    have := h c (Array.mem_toList_iff.mp hc)
    simpa using this
  · intro h c hc
    have := h c (Array.mem_toList_iff.mpr hc)
    simpa using this
theorem OkT.app {x y : Str} (a : OkT x) (b : OkT y) : OkT (x ++ y) := by
  intro c hc
  have e : (x ++ y).cps.toList = x.cps.toList ++ y.cps.toList := Array.toList_append
  rw [e, List.mem_append] at hc
  exact hc.elim (a c) (b c)
theorem char_lt (c : Char) : c.toNat < 0x110000 := by
  rcases c.valid with h | h
  · have : c.toNat < 0xD800 := h
    omega
  · exact h.2
theorem OkT.lit (s : String) : OkT (Str.ofString s) := by
  rw [Str.ofString_eq_toList]
  intro c hc
  obtain ⟨d, _, rfl⟩ := List.mem_map.mp (show c ∈ s.toList.map Char.toNat from hc)
  exact char_lt d
theorem ok_char {q c : Nat} (h : c < 0x110000) : ∀ e ∈ Builtin.Str.reprChar q c, e < 0x110000 := by
  have hex : ∀ n : Nat, ∀ e ∈ (let d := (Nat.toDigits 16 c).map Char.toNat; List.replicate (n - d.length) 48 ++ d), e < 0x110000 := by
    intro n e he
    dsimp only at he
    rcases List.mem_append.mp he with z | z
    · rw [(List.mem_replicate.mp z).2]
      decide
    · obtain ⟨d, _, rfl⟩ := List.mem_map.mp z
      exact char_lt d
  have two : ∀ a b : Nat, a < 0x110000 → b < 0x110000 → ∀ e ∈ [a, b], e < 0x110000 := by
    intro a b ha hb e he
    rcases List.mem_cons.mp he with rfl | he
    · exact ha
    · rw [List.mem_singleton.mp he]
      exact hb
  intro e he
  unfold Builtin.Str.reprChar at he
  dsimp only at he
  split at he
  · exact two _ _ (by decide) h e he
  split at he
  · exact two _ _ (by decide) (by decide) e he
  split at he
  · exact two _ _ (by decide) (by decide) e he
  split at he
  · exact two _ _ (by decide) (by decide) e he
  split at he
  · rw [List.mem_singleton.mp he]
    exact h
  split at he
  · rcases List.mem_append.mp he with z | z
    · exact two _ _ (by decide) (by decide) e z
    · exact hex 2 e z
  split at he
  · rcases List.mem_append.mp he with z | z
    · exact two _ _ (by decide) (by decide) e z
    · exact hex 4 e z
  · rcases List.mem_append.mp he with z | z
    · exact two _ _ (by decide) (by decide) e z
    · exact hex 8 e z
theorem ok_repr {x : Str} (h : OkT x) : OkT (reprText x) := by
  have q : reprQuote x < 0x110000 := by
    unfold reprQuote
    split <;> decide
  have fold : ∀ (l : List Nat) (acc : Array Nat), (∀ c ∈ l, c < 0x110000) → (∀ c ∈ acc.toList, c < 0x110000) → ∀ c ∈ (l.foldl (fun out c => out ++ (Builtin.Str.reprChar (reprQuote x) c).toArray) acc).toList, c < 0x110000 := by
    intro l
    induction l with
    | nil => exact fun acc _ ha => ha
    | cons d r ih =>
      intro acc hl ha
      refine ih _ (fun c hc => hl c (List.mem_cons_of_mem _ hc)) fun c hc => ?_
      rw [Array.toList_append, List.mem_append] at hc
      rcases hc with z | z
      · exact ha c z
      · exact ok_char (hl d List.mem_cons_self) c z
  intro c hc
  have e : (reprText x).cps.toList = (x.cps.toList.foldl (fun out c => out ++ (Builtin.Str.reprChar (reprQuote x) c).toArray) #[reprQuote x]).toList ++ [reprQuote x] := by
    unfold reprText
    rw [Array.toList_push, ← Array.foldl_toList]
  rw [e, List.mem_append] at hc
  rcases hc with z | z
  · exact fold _ _ h (fun c hc => by rw [List.mem_singleton.mp (show c ∈ [reprQuote x] from hc)]; exact q) c z
  · rw [List.mem_singleton.mp z]
    exact q
theorem ok_from : ∀ (ts : List Str) (k : Nat) (acc : Str), OkT acc → (∀ t ∈ ts, OkT t) → OkT (textFrom k acc ts)
  | [], _, _, ha, _ => ha
  | t :: r, k, acc, ha, h => by
    unfold textFrom
    exact ok_from r (k + 1) _ ((ha.app (OkT.lit _)).app (h t List.mem_cons_self)) fun u hu => h u (List.mem_cons_of_mem _ hu)
theorem ok_join : ∀ ts : List Str, (∀ t ∈ ts, OkT t) → OkT (Str.join ", " ts)
  | [], _ => fun c hc => absurd hc (by simp [Str.join, Str.empty])
  | [x], h => h x List.mem_cons_self
  | x :: y :: r, h => by
    unfold Str.join
    exact ((h x List.mem_cons_self).app (OkT.lit _)).app (ok_join (y :: r) fun u hu => h u (List.mem_cons_of_mem _ hu))
mutual
theorem ok_shown : ∀ d : PyData, d.canLay0 = true → OkT d.shown
  | .none, _ => OkT.lit _
  | .bool b, _ => by
    unfold PyData.shown
    split <;> exact OkT.lit _
  | .int i, _ => OkT.lit _
  | .str x, h => ok_repr (okT_iff.mp h)
  | .list xs, h => by
    show OkT (textFrom 0 "[" (PyData.shownAll xs) ++ _)
    exact (ok_from _ _ _ (OkT.lit _) (ok_shownAll xs h)).app (OkT.lit _)
  | .tuple xs, h => by
    show OkT (_ ++ Str.join ", " (PyData.shownAll xs) ++ _)
    exact ((OkT.lit _).app (ok_join _ (ok_shownAll xs h))).app (OkT.lit _)
  | .dict _, h => Bool.noConfusion h
theorem ok_shownAll : ∀ xs : List PyData, PyData.canLayAll0 xs = true → ∀ t ∈ PyData.shownAll xs, OkT t
  | [], _, t, ht => absurd ht List.not_mem_nil
  | x :: r, h, t, ht => by
    rw [PyData.canLayAll0, Bool.and_eq_true] at h
    rcases List.mem_cons.mp ht with rfl | ht
    · exact ok_shown x h.1
    · exact ok_shownAll r h.2 t ht
end
theorem ok_text {d : PyData} (h : d.canLay0 = true) : PyData.strOk (textD d) = true := by
  refine okT_iff.mpr ?_
  cases d with
  | str x => exact okT_iff.mp h
  | none => exact OkT.lit _
  | bool b =>
    unfold textD
    dsimp only
    split <;> exact OkT.lit _
  | int i => exact OkT.lit _
  | list xs => exact ok_shown _ h
  | tuple xs => exact ok_shown _ h
  | dict k => exact Bool.noConfusion h
end LK
namespace K1
open PySem PySem.Spec PyProof.Rows L2 LK
abbrev St := L2.St
def top (i : Nat) : Stmt := PySem.Challenge.pw_runsdown_k01_cloths_made.main.body.getD i (.Pass ⟨0, 0, 0, 0⟩)
abbrev sPly : Stmt := top 21
abbrev sCreel : Stmt := top 20
section
variable {P : Program} {w : World} {K : PySem.W.Frag} {mg : Str → Option Value} {base : Heap}
theorem scPly : FnScope ["creel", "span", "digit", "twine"] ["creel", "span"] (defScope sPly) := ⟨rfl, rfl, rfl, by decide +kernel, rfl, by decide +kernel, by decide +kernel⟩
theorem ok_ply {f : Addr} {fd : FuncData} (F : Fun K "_law_ply" "_law_ply" sPly f fd) (B : Bl mg) : FnOk P w K mg base CX0 1 f fd ["creel", "span"] spPly := by
  refine F.ok scPly (fun vs H Q E h => ?_) (fun cdv A outer s H vs Q E hr h => ?_)
  · obtain ⟨c, span, _, rfl, _⟩ := h
    rfl
  · obtain ⟨c, span, bb, rfl, p0, p1, ⟨a, b, n, hc, a0, b0, b1, n0, n1⟩, bB, k⟩ := h
    refine ⟨_, pss_cons (ps_if (pt_cmpR op_gt (pe_ix ix_list (pv 0) pe_int (fun _ _ => rfl)) pe_int (nomark _)) (pss_cons (ps_set (i := 2) scPly.nd rfl (Or.inl rfl) (pe_op op_mod (pe_callTy call_int1 (by rfl) (B "int" (by decide)) (by decide +kernel) (pa_cons (pe_ix ix_list (pv 0) pe_int (fun _ _ => rfl)) pa_nil)) (pv 1)))
      (pss_cons (ps_asg (pe_op op_fdivW (pe_ix ix_list (pv 0) pe_int (fun _ _ => rfl)) (pv 1)) (pg_sub (pv 0) pe_int set_list))
      (pss_one (ps_ret (pv 2))))) pss_nil)
      (pss_cons (ps_asg (pe_op op_add (pe_ix ix_list (pv 0) pe_int (fun _ _ => rfl)) pe_int) (pg_sub (pv 0) pe_int set_list))
      (pss_cons (ps_set (i := 3) scPly.nd rfl (Or.inl rfl) (pe_op op_mod (pe_op op_powB (pe_callTy call_int1 (by rfl) (B "int" (by decide)) (by decide +kernel) (pa_cons (pe_op op_add (pe_ix ix_list (pv 0) pe_int (fun _ _ => rfl)) (pe_op op_mul pe_int (pe_ix ix_list (pv 0) pe_int (fun _ _ => rfl)))) pa_nil)) pe_int) (pe_op op_add (pe_op op_pow pe_int pe_int) pe_int)))
      (pss_cons (ps_set (i := 3) scPly.nd rfl (Or.inl rfl) (pe_op op_mod (pe_op op_powB (pe_callTy call_int1 (by rfl) (B "int" (by decide)) (by decide +kernel) (pa_cons (pe_op op_add (pv 3) (pe_op op_mul pe_int (pe_ix ix_list (pv 0) pe_int (fun _ _ => rfl)))) pa_nil)) pe_int) (pe_op op_add (pe_op op_pow pe_int pe_int) pe_int)))
      (pss_one (ps_ret (pe_op op_mod (pe_op op_fdivW (pv 3) pe_int) (pv 1))))))), ?_⟩
    refine ⟨_, rfl, c, _, 0, _, rfl, rfl, SqL.of hc, atI_nat (j := 0) rfl, _, _, rfl, rfl, _, rfl, ?_⟩
    by_cases big : a > 0
    · refine LK.ifT (decide_eq_true big) ?_
      refine ⟨_, rfl, c, _, 0, _, rfl, rfl, SqL.of hc, atI_nat (j := 0) rfl, .inl ⟨_, rfl, _, rfl, _, _, rfl, rfl, p0, ?_⟩⟩
      refine ⟨_, rfl, c, _, 0, _, rfl, rfl, SqL.of hc, atI_nat (j := 0) rfl, _, rfl, _, _, rfl, rfl, wide_div (b := 60) p0 (by omega) (by decide) (by decide), ?_⟩
      refine ⟨_, rfl, c, _, _, 0, rfl, rfl, hc, rfl, ?_⟩
      exact ⟨_, rfl, k _ _ (Int.emod_nonneg _ (by omega)) (Int.emod_lt_of_pos _ p0) ⟨_, _, _, upd_same, Int.ediv_nonneg a0 (by omega), b0, b1, n0, by omega⟩ Bt.put (fun p => upd_none hc)⟩
    · refine LK.ifF (decide_eq_false big) ?_
      refine ⟨_, rfl, c, _, 2, _, rfl, rfl, SqL.of hc, atI_nat (j := 2) rfl, _, _, rfl, rfl, ?_⟩
      refine ⟨_, rfl, c, _, _, 2, rfl, rfl, hc, rfl, ?_⟩
      have hc2 : upd H c (.lst [.int a, .int b, .int (n + 1)]) c = some (.lst [.int a, .int b, .int (n + 1)]) := upd_same
      refine ⟨_, rfl, c, _, 1, _, rfl, rfl, SqL.of hc2, atI_nat (j := 1) rfl, _, rfl, c, _, 2, _, rfl, rfl, SqL.of hc2, atI_nat (j := 2) rfl, _, _, rfl, rfl, .inl ⟨by decide, by decide⟩, _, _, rfl, rfl, .inl ⟨_, rfl, ?_⟩⟩
      have m0 : 0 ≤ b + 50021 * (n + 1) := by omega
      have m1 : b + 50021 * (n + 1) < 2 ^ 140 := by
        have : (10 : Int) ^ 40 + 50021 * (10 ^ 12 + 1) < 2 ^ 140 := by decide
        omega
      have w1 := bits_small (i := b + 50021 * (n + 1)) (n := 140) (by omega) (by decide)
      refine ⟨_, _, rfl, rfl, ⟨by decide, by omega⟩, _, _, rfl, rfl, ⟨by decide, by decide, by decide⟩, _, _, rfl, rfl, _, _, rfl, rfl, (show (0 : Int) < 10 ^ 38 + 67 by decide), ?_⟩
      generalize hx : (b + 50021 * (n + 1)) ^ (2 : Int).toNat % ((10 : Int) ^ (38 : Int).toNat + 67) = x
      have x0 : 0 ≤ x := by rw [← hx]; exact Int.emod_nonneg _ (by decide)
      have x1 : x < 10 ^ 38 + 67 := by rw [← hx]; exact Int.emod_lt_of_pos _ (by decide)
      refine ⟨_, rfl, _, rfl, c, _, 2, _, rfl, rfl, SqL.of hc2, atI_nat (j := 2) rfl, _, _, rfl, rfl, .inl ⟨by decide, by decide⟩, _, _, rfl, rfl, .inl ⟨_, rfl, ?_⟩⟩
      have q0 : 0 ≤ x + 700001 * (n + 1) := by omega
      have q1 : x + 700001 * (n + 1) < 2 ^ 140 := by
        have : (10 : Int) ^ 38 + 67 + 700001 * (10 ^ 12 + 1) < 2 ^ 140 := by decide
        omega
      have w2 := bits_small (i := x + 700001 * (n + 1)) (n := 140) (by omega) (by decide)
      refine ⟨_, _, rfl, rfl, ⟨by decide, by rw [hx]; omega⟩, _, _, rfl, rfl, ⟨by decide, by decide, by decide⟩, _, _, rfl, rfl, _, _, rfl, rfl, (show (0 : Int) < 10 ^ 39 + 37 by decide), ?_⟩
      generalize hy : (x + 700001 * (n + 1)) ^ (3 : Int).toNat % ((10 : Int) ^ (39 : Int).toNat + 37) = y
      refine ⟨_, rfl, _, _, rfl, rfl, wide_div (b := 60) (by decide) (by decide) (by decide) (by decide), _, rfl, _, _, rfl, rfl, p0, ?_⟩
      exact k _ _ (Int.emod_nonneg _ (by omega)) (Int.emod_lt_of_pos _ p0) ⟨_, _, _, hc2, a0, b0, b1, by omega, by omega⟩ Bt.put (fun p => upd_none hc)
theorem scCreel : FnScope ["script", "at", "cell"] ["script", "at"] (defScope sCreel) := ⟨rfl, rfl, rfl, by decide +kernel, rfl, by decide +kernel, by decide +kernel⟩
theorem ok_creel {f : Addr} {fd : FuncData} (F : Fun K "_law_creel" "_law_creel" sCreel f fd) (B : Bl mg) : FnOk P w K mg base CX0 1 f fd ["script", "at"] (spCreel K) := by
  refine F.ok scCreel (fun vs H Q E h => ?_) (fun cdv A outer s H vs Q E hr h => ?_)
  · obtain ⟨a, ns, i, rfl, _⟩ := h
    rfl
  · obtain ⟨a, ns, i, rfl, hS, hi, k⟩ := h
    refine ⟨_, pss_cons (ps_set (i := 2) scCreel.nd rfl (Or.inl rfl) (pe_ifExp (pt_cmpR op_lt (pv 1) (pe_callB call_len_seq (by rfl) (B "len" (by decide)) (by decide +kernel) (pa_cons (pv 0) pa_nil)) (nomark _)) (pe_ix ix_list (pv 0) (pv 1) (fun _ _ => rfl)) pe_int))
      (pss_one (ps_ret (pe_lst (pa_cons (pe_callB (call_max2 rfl) (by rfl) (B "max" (by decide)) (by decide +kernel) (pa_cons pe_int (pa_cons (pe_op op_sub (pe_callB call_abs (by rfl) (B "abs" (by decide)) (by decide +kernel) (pa_cons (pv 2) pa_nil)) (pe_op op_pow pe_int pe_int)) pa_nil))) (pa_cons (pe_op op_add (pe_op op_add (pe_op op_mul (pe_op op_mod (pe_callTy call_int1 (by rfl) (B "int" (by decide)) (by decide +kernel) (pa_cons (pv 2) pa_nil)) (pe_op op_add (pe_op op_pow pe_int pe_int) pe_int)) pe_int) (pe_op op_mul pe_int (pv 1))) pe_int) (pa_cons pe_int pa_nil)))))), ?_⟩
    refine ⟨_, rfl, _, rfl, a, _, rfl, .inl hS, _, _, rfl, rfl, _, rfl, ?_⟩
    rw [List.length_map]
    have fin : ∀ z : Int, 0 ≤ (if (if z < 0 then -z else z) - 10 ^ (18 : Int).toNat > 0 then (if z < 0 then -z else z) - 10 ^ (18 : Int).toNat else 0) := fun z => by
      split <;> omega
    have m0 : ∀ z : Int, 0 ≤ z % ((10 : Int) ^ (37 : Int).toNat + 3) := fun z => Int.emod_nonneg _ (by decide)
    have m1 : ∀ z : Int, z % ((10 : Int) ^ (37 : Int).toNat + 3) < (10 : Int) ^ (37 : Int).toNat + 3 := fun z => Int.emod_lt_of_pos _ (by decide)
    have m2 : ((10 : Int) ^ (37 : Int).toNat + 3) * 71 + 60000 < 10 ^ 40 := by decide
    by_cases lt : (i : Int) < ns.length
    · refine LK.ifT (decide_eq_true lt) ?_
      obtain ⟨z, hz⟩ : ∃ z, ns[i]? = some z := ⟨ns[i]'(by omega), List.getElem?_eq_getElem (by omega)⟩
      refine ⟨_, rfl, _, rfl, a, _, (i : Int), _, rfl, rfl, hS, atI_nat (v := V.int z) (by rw [List.getElem?_map, hz]; rfl), ?_⟩
      have f0 := fin z
      have f1 := m0 z
      have f2 := m1 z
      refine ⟨_, rfl, _, rfl, _, _, rfl, rfl, ⟨by decide, by decide, by decide⟩, _, _, rfl, rfl, _, _, rfl, ?_⟩
      refine ⟨_, rfl, .inl ⟨_, rfl, _, _, rfl, rfl, ⟨by decide, by decide, by decide⟩, _, _, rfl, rfl, _, _, rfl, rfl, (show (0 : Int) < 10 ^ 37 + 3 by decide), _, _, rfl, rfl, .inr ⟨by decide, by decide⟩, _, rfl, _, _, rfl, rfl, .inl ⟨by decide, by decide⟩, _, _, rfl, rfl, _, _, rfl, rfl, ?_⟩⟩
      exact ⟨by show 3 ≤ sizeLine; decide, fun p np => k _ _ np ⟨_, _, _, upd_same, f0, by omega, by omega, by omega, by omega⟩ (same_new np)⟩
    · refine LK.ifF (decide_eq_false lt) ?_
      have f0 := fin 0
      have f1 := m0 0
      have f2 := m1 0
      refine ⟨_, rfl, _, rfl, _, _, rfl, rfl, ⟨by decide, by decide, by decide⟩, _, _, rfl, rfl, _, _, rfl, ?_⟩
      refine ⟨_, rfl, .inl ⟨_, rfl, _, _, rfl, rfl, ⟨by decide, by decide, by decide⟩, _, _, rfl, rfl, _, _, rfl, rfl, (show (0 : Int) < 10 ^ 37 + 3 by decide), _, _, rfl, rfl, .inr ⟨by decide, by decide⟩, _, rfl, _, _, rfl, rfl, .inl ⟨by decide, by decide⟩, _, _, rfl, rfl, _, _, rfl, rfl, ?_⟩⟩
      exact ⟨by show 3 ≤ sizeLine; decide, fun p np => k _ _ np ⟨_, _, _, upd_same, f0, by omega, by omega, by omega, by omega⟩ (same_new np)⟩
end
end K1
namespace K1
open PySem PySem.Spec PyProof.Rows L2 LK
abbrev sMat : Stmt := top 22
section
variable {P : Program} {w : World} {K : PySem.W.Frag} {mg : Str → Option Value} {base : Heap}
theorem scMat : FnScope ["found", "due", "k"] ["found", "due"] (defScope sMat) := ⟨rfl, rfl, rfl, by decide +kernel, rfl, by decide +kernel, by decide +kernel⟩
theorem mat_step {f : Addr} {fd : FuncData} (n : Nat) (F : Fun K "_law_matched" "_law_matched" sMat f fd) (B : Bl mg) (g_ : mg "_law_matched" = some (.ref f)) (b_ : Binds K fd ["found", "due"] []) (G : FnOk P w K mg base CX0 n f fd ["found", "due"] (spM K n)) :
    FnOk P w K mg base CX0 (n + 1) f fd ["found", "due"] (spM K (n + 1)) := by
  refine F.ok scMat (fun vs H Q E h => ?_) (fun cdv A outer s H vs Q E hr h => ?_)
  · obtain ⟨x, y, d, rfl, _⟩ := h
    rfl
  · obtain ⟨x, y, d, rfl, hx, hy, lay, dn, d60, fw, k⟩ := h
    refine ⟨_, pss_cons (ps_if (PW.pt (pw_or (pt_val (pe_callB call_isi (by rfl) (B "isinstance" (by decide)) (by decide +kernel) (pa_cons (pv 0) (pa_cons (pe_bltn (v := .ty "bool") rfl (B "bool" (by decide)) (by decide +kernel) rfl) pa_nil)))) (pw_or1 (pt_val (pe_callB call_isi (by rfl) (B "isinstance" (by decide)) (by decide +kernel) (pa_cons (pv 1) (pa_cons (pe_bltn (v := .ty "bool") rfl (B "bool" (by decide)) (by decide +kernel) rfl) pa_nil))))))) (pss_one (ps_ret (pe_and (pe_callB call_isi (by rfl) (B "isinstance" (by decide)) (by decide +kernel) (pa_cons (pv 0) (pa_cons (pe_bltn (v := .ty "bool") rfl (B "bool" (by decide)) (by decide +kernel) rfl) pa_nil))) (pe_and (pe_callB call_isi (by rfl) (B "isinstance" (by decide)) (by decide +kernel) (pa_cons (pv 1) (pa_cons (pe_bltn (v := .ty "bool") rfl (B "bool" (by decide)) (by decide +kernel) rfl) pa_nil))) (pe_one (pe_cmpR (op_eqD hr.units) (pv 0) (pv 1) (nomark _))))))) pss_nil)
      (pss_cons (ps_if (PW.pt (pw_or (pt_cmpR op_ne (pe_callB call_isi (by rfl) (B "isinstance" (by decide)) (by decide +kernel) (pa_cons (pv 0) (pa_cons (pe_bltn (v := .ty "list") rfl (B "list" (by decide)) (by decide +kernel) rfl) pa_nil))) (pe_callB call_isi (by rfl) (B "isinstance" (by decide)) (by decide +kernel) (pa_cons (pv 1) (pa_cons (pe_bltn (v := .ty "list") rfl (B "list" (by decide)) (by decide +kernel) rfl) pa_nil))) (nomark _)) (pw_or1 (pt_cmpR op_ne (pe_callB call_isi (by rfl) (B "isinstance" (by decide)) (by decide +kernel) (pa_cons (pv 0) (pa_cons (pe_bltn (v := .ty "tuple") rfl (B "tuple" (by decide)) (by decide +kernel) rfl) pa_nil))) (pe_callB call_isi (by rfl) (B "isinstance" (by decide)) (by decide +kernel) (pa_cons (pv 1) (pa_cons (pe_bltn (v := .ty "tuple") rfl (B "tuple" (by decide)) (by decide +kernel) rfl) pa_nil))) (nomark _))))) (pss_one (ps_ret pe_bl)) pss_nil)
      (pss_cons (ps_if (PW.pt (pw_or (pt_cmpR op_ne (pe_callB call_isi (by rfl) (B "isinstance" (by decide)) (by decide +kernel) (pa_cons (pv 0) (pa_cons (pe_bltn (v := .ty "str") rfl (B "str" (by decide)) (by decide +kernel) rfl) pa_nil))) (pe_callB call_isi (by rfl) (B "isinstance" (by decide)) (by decide +kernel) (pa_cons (pv 1) (pa_cons (pe_bltn (v := .ty "str") rfl (B "str" (by decide)) (by decide +kernel) rfl) pa_nil))) (nomark _)) (pw_or1 (pt_cmpR op_ne (pe_callB call_isi (by rfl) (B "isinstance" (by decide)) (by decide +kernel) (pa_cons (pv 0) (pa_cons (pe_bltn (v := .ty "int") rfl (B "int" (by decide)) (by decide +kernel) rfl) pa_nil))) (pe_callB call_isi (by rfl) (B "isinstance" (by decide)) (by decide +kernel) (pa_cons (pv 1) (pa_cons (pe_bltn (v := .ty "int") rfl (B "int" (by decide)) (by decide +kernel) rfl) pa_nil))) (nomark _))))) (pss_one (ps_ret pe_bl)) pss_nil)
      (pss_cons (ps_if (pt_val (pe_callB call_isiT (by rfl) (B "isinstance" (by decide)) (by decide +kernel) (pa_cons (pv 1) (pa_cons (pe_tup (pa_cons (pe_bltn (v := .ty "list") rfl (B "list" (by decide)) (by decide +kernel) rfl) (pa_cons (pe_bltn (v := .ty "tuple") rfl (B "tuple" (by decide)) (by decide +kernel) rfl) pa_nil))) pa_nil)))) (pss_cons (ps_if (pt_cmpR op_ne (pe_callB call_len_seq (by rfl) (B "len" (by decide)) (by decide +kernel) (pa_cons (pv 0) pa_nil)) (pe_callB call_len_seq (by rfl) (B "len" (by decide)) (by decide +kernel) (pa_cons (pv 1) pa_nil)) (nomark _)) (pss_one (ps_ret pe_bl)) pss_nil)
      (pss_one (ps_ret (pe_cmpR (op_eqD hr.units) (pe_lc (own := [("k", 2)]) (g := gName 2) rfl scMat.nd (pi_range1 (by rfl) (B "range" (by decide)) (pa_cons (pe_callB call_len_seq (by rfl) (B "len" (by decide)) (by decide +kernel) (pa_cons (pv 1) pa_nil)) pa_nil)) (blkOk_by (N := ["found", "due", "k"]) (sc := defScope sMat) (by decide +kernel)) (fun _ _ _ _ _ => pg_name (i := 2) scMat.nd rfl (Or.inl rfl)) (fun _ _ _ _ _ => pts_one (pt_not (pt_val (pe_call (E := E0) G hr rfl g_ F.kp b_ .nil pass0 (pa_cons (pe_ix (ixq (K := K)) (pv 0) (pv 2) (fun _ _ => rfl)) (pa_cons (pe_ix (ixq (K := K)) (pv 1) (pv 2) (fun _ _ => rfl)) pa_nil)))))) (fun _ _ _ _ _ => pv 2)) (pe_lst pa_nil) (nomark _))))) pss_nil)
      (pss_one (ps_ret (pe_and (pe_cmpR op_eq (pe_cmpR op_isN (pv 0) pe_non (nomark _)) (pe_cmpR op_isN (pv 1) pe_non (nomark _)) (nomark _)) (pe_one (pe_cmpR (op_eqD hr.units) (pv 0) (pv 1) (nomark _))))))))), ?_⟩
    have sh : SeqAt.shaped d = true := shaped_of lay (by omega)
    have is1 : ∀ T, T ∈ (["bool", "int", "str", "list", "tuple"] : List String) → PySem.W.kitOne K (.type (tyN d)) (.type T) = some (isK d T) := fun T hT => kit_d hx T hT
    -- bool?
    refine ⟨_, rfl, _, _, _, _, _, rfl, .ty "bool", dp_ty hx, is1 "bool" (by decide), _, rfl, ?_⟩
    by_cases e1 : isK d "bool" = true
    · refine LK.ifT e1 (LK.ifT rfl ?_)
      refine ⟨_, rfl, _, _, _, _, _, rfl, .ty "bool", dp_ty hx, is1 "bool" (by decide), _, rfl, LK.ifT e1 ?_⟩
      refine ⟨_, rfl, _, _, _, _, _, rfl, .ty "bool", dp_ty hy, is1 "bool" (by decide), _, rfl, LK.ifT e1 ?_⟩
      refine ⟨_, rfl, _, rfl, d, d, hx, hy, sh, sh, ?_⟩
      rw [SeqAt.eqv_refl d lay]
      exact k H (Same.refl H)
    have e1' : isK d "bool" = false := by simpa using e1
    refine LK.ifF e1' ?_
    refine ⟨_, rfl, _, _, _, _, _, rfl, .ty "bool", dp_ty hy, is1 "bool" (by decide), _, rfl, LK.ifF e1' ?_⟩
    -- the kinds agree
    refine ⟨_, rfl, _, _, _, _, _, rfl, .ty "list", dp_ty hx, is1 "list" (by decide), _, rfl, _, _, _, _, _, rfl, .ty "list", dp_ty hy, is1 "list" (by decide), rfl, _, rfl, LK.ifF (by simp) ?_⟩
    refine ⟨_, rfl, _, _, _, _, _, rfl, .ty "tuple", dp_ty hx, is1 "tuple" (by decide), _, rfl, _, _, _, _, _, rfl, .ty "tuple", dp_ty hy, is1 "tuple" (by decide), rfl, _, rfl, LK.ifF (by simp) ?_⟩
    refine ⟨_, rfl, _, _, _, _, _, rfl, .ty "str", dp_ty hx, is1 "str" (by decide), _, rfl, _, _, _, _, _, rfl, .ty "str", dp_ty hy, is1 "str" (by decide), rfl, _, rfl, LK.ifF (by simp) ?_⟩
    refine ⟨_, rfl, _, _, _, _, _, rfl, .ty "int", dp_ty hx, is1 "int" (by decide), _, rfl, _, _, _, _, _, rfl, .ty "int", dp_ty hy, is1 "int" (by decide), rfl, _, rfl, LK.ifF (by simp) ?_⟩
    -- a list or a tuple?
    refine ⟨_, rfl, by show 2 ≤ sizeLine; decide, fun tp ntp => ⟨_, tp, _, _, _, _, rfl, upd_same, .cons (.ty "list") (.cons (.ty "tuple") .nil), dp_ty (dp_same (same_new ntp) hy), kit_lt hy, _, rfl, ?_⟩⟩
    have s1 : Same H (upd H tp (.tup [.ty "list", .ty "tuple"])) := same_new ntp
    have hx1 := dp_same s1 hx
    have hy1 := dp_same s1 hy
    by_cases e2 : (isK d "list" || isK d "tuple") = true
    · refine LK.ifT e2 ?_
      obtain ⟨a, xs, ds, rfl, sa, da, dd⟩ := dp_items hx1 e2
      obtain ⟨b, ys, es, rfl, sb, db, de⟩ := dp_items hy1 e2
      have ee : es = ds := by
        rcases dd with rfl | rfl <;> rcases de with q | q <;> cases q <;> rfl
      subst ee
      have l1 := dps_len da
      have l2 := dps_len db
      have lay2 : PyData.canLayAll0 es = true := by
        rcases dd with rfl | rfl <;> simpa only [PyData.canLay0] using lay
      have dep : PyData.depthAll es + 1 = d.depth := by
        rcases dd with rfl | rfl <;> rfl
      refine ⟨_, rfl, a, _, rfl, sa, _, rfl, b, _, rfl, sb, rfl, _, rfl, LK.ifF (by rw [l1, l2]; simp) ?_⟩
      obtain ⟨big, fw2⟩ := few_items fw dd
      refine ⟨_, rfl, b, _, rfl, sb, (ys.length : Int), rfl, by omega, by omega, fun D nD => ?_⟩
      refine lc_range (lo := 0) (n := ys.length) (fun j H' => Same (upd H tp (.tup [.ty "list", .ty "tuple"])) H' ∧ H' D = some (.lst [])) ⟨same_new nD, upd_same⟩ (fun j H' hj hh => ⟨rfl, ?_⟩) (fun H' hh => ?_)
      · obtain ⟨s2, hD⟩ := hh
        obtain ⟨v1, d1, q1, q2, q3⟩ := dps_at (dps_same s2 da) (i := j) (by omega)
        obtain ⟨v2, d2, p1, p2, p3⟩ := dps_at (dps_same s2 db) (i := j) (by omega)
        obtain rfl : d1 = d2 := Option.some.inj (q2.symm.trans p2)
        obtain ⟨la, ld⟩ := lay_at lay2 q2
        refine ⟨_, rfl, _, rfl, rix_of (seq_same s2 sa) q1 (Int.zero_add _) ⟨_, rfl, _, rfl, rix_of (seq_same s2 sb) p1 (Int.zero_add _) ?_⟩⟩
        exact ⟨v1, v2, d1, rfl, q3, p3, la, by omega, by omega, few_at fw2 q2, fun H3 s3 => ⟨_, rfl, LK.ifF rfl ⟨s2.trans s3, s3 _ _ hD⟩⟩⟩
      · obtain ⟨s2, hD⟩ := hh
        refine ⟨by show 0 ≤ sizeLine; decide, fun q nq => ?_⟩
        have s3 : Same H' (upd H' q (.lst [])) := same_new nq
        refine ⟨_, _, .lst (SqL.of (s3 _ _ hD)) .nil, .lst (SqL.of upd_same) .nil, by decide +kernel, by decide +kernel, ?_⟩
        exact k _ ((s1.trans s2).trans s3)
    · have e2' : (isK d "list" || isK d "tuple") = false := by simpa using e2
      refine LK.ifF e2' ?_
      refine ⟨_, rfl, rfl, _, rfl, rfl, rfl, _, rfl, LK.ifT ?_ ⟨_, rfl, _, rfl, d, d, hx1, hy1, sh, sh, ?_⟩⟩
      · cases hx with
        | non => cases hy; rfl
        | bl b => cases hy; rfl
        | int i => cases hy; rfl
        | str x => cases hy; rfl
        | lst s a => exact absurd e2 (by simp [isK, tyN]; decide +kernel)
        | tup s a => exact absurd e2 (by simp [isK, tyN]; decide +kernel)
      · rw [SeqAt.eqv_refl d lay]
        exact k _ s1
end
end K1
namespace K1
open PySem PySem.Spec PyProof.Rows L2 LK
abbrev sKids : Stmt := top 25
/-- a loop as it is read: its thread, its parents -/
abbrev Lp := Str × List Int
def lpD (l : Lp) : PyData := .tuple [.str l.1, .tuple (l.2.map PyData.int)]
/-- the numbers of the loops that have spot among their parents -/
def kidsOf (ls : List Lp) (spot : Int) : List Nat := (List.range ls.length).filter fun k => match ls[k]? with
  | some l => decide (spot ∈ l.2)
  | none => false
def spKids (K : PySem.W.Frag) : Sp := fun vs H Q _ => ∃ (a : Addr) (spot : Int) (xs : List V) (ls : List Lp), vs = [.ref a, .int spot] ∧ SqL K H a xs ∧ DpAll K H xs (ls.map lpD) ∧ ls.length ≤ 100000 ∧
  ∀ (H' : Hp) (p : Addr), H p = none → Same H H' → H' p = some (.lst ((kidsOf ls spot).map fun k : Nat => V.int (k : Int))) → Q (.ref p) H'
theorem inV_int (i : Int) : ∀ ns : List Int, inV (.int i) (ns.map V.int) = decide (i ∈ ns)
  | [] => by simp [inV]
  | n :: r => by
    have h := inV_int i r
    unfold inV at h ⊢
    rw [List.map_cons, List.any_cons, h]
    by_cases e : n = i
    · subst e
      simp [eqV]
    · have e' : ¬ i = n := fun z => e z.symm
      simp [eqV, e, e']
theorem flat_ints (ns : List Int) : (ns.map V.int).all flatV = true := by
  rw [List.all_map]
  exact List.all_eq_true.mpr fun _ _ => rfl
theorem dp_ints {K : PySem.W.Frag} {H : Hp} : ∀ {xs : List V} {ns : List Int}, DpAll K H xs (ns.map PyData.int) → xs = ns.map V.int
  | _, [], .nil => rfl
  | _, n :: r, .cons (.int _) t => by rw [dp_ints t]; rfl
theorem filt_more (f : Nat → Bool) (n : Nat) : (List.range (n + 1)).filter f = (List.range n).filter f ++ (if f n then [n] else []) := by
  rw [List.range_succ, List.filter_append]
  congr 1
  simp [List.filter_cons]
section
variable {P : Program} {w : World} {K : PySem.W.Frag} {mg : Str → Option Value} {base : Heap}
theorem scKids : FnScope ["loops_here", "spot", "k"] ["loops_here", "spot"] (defScope sKids) := ⟨rfl, rfl, rfl, by decide +kernel, rfl, by decide +kernel, by decide +kernel⟩
theorem inq {X : Cx} {K : PySem.W.Frag} (e : X.K = K := by rfl) : OpR X (compareOp .In) (rIn K false) := e ▸ op_in_seq
theorem ok_kids {f : Addr} {fd : FuncData} (F : Fun K "_law_kids" "_law_kids" sKids f fd) (B : Bl mg) : FnOk P w K mg base CX0 1 f fd ["loops_here", "spot"] (spKids K) := by
  refine F.ok scKids (fun vs H Q E h => ?_) (fun cdv A outer s H vs Q E hr h => ?_)
  · obtain ⟨a, spot, xs, ls, rfl, _⟩ := h
    rfl
  · obtain ⟨a, spot, xs, ls, rfl, hs, hd, hl, k⟩ := h
    have len : xs.length = ls.length := by rw [dps_len hd, List.length_map]
    refine ⟨_, pss_one (ps_ret (pe_lc (own := [("k", 2)]) (g := gName 2) rfl scKids.nd (pi_range1 (by rfl) (B "range" (by decide)) (pa_cons (pe_callB call_len_seq (by rfl) (B "len" (by decide)) (by decide +kernel) (pa_cons (pv 0) pa_nil)) pa_nil)) (blkOk_by (N := ["loops_here", "spot", "k"]) (sc := defScope sKids) (by decide +kernel)) (fun _ _ _ _ _ => pg_name (i := 2) scKids.nd rfl (Or.inl rfl)) (fun _ _ _ _ _ => pts_one (pt_cmpR (inq (K := K)) (pv 1) (pe_ix (ixt (K := K)) (pe_ix (ixl (K := K)) (pv 0) (pv 2) (fun _ _ => rfl)) pe_int (fun _ _ => rfl)) (by rfl))) (fun _ _ _ _ _ => pv 2))), ?_⟩
    refine ⟨_, rfl, a, _, rfl, .inl hs, (xs.length : Int), rfl, by omega, by omega, fun D nD => ?_⟩
    refine lc_range (lo := 0) (n := xs.length) (fun j H' => Same H H' ∧ H' D = some (.lst (((List.range j).filter fun k => match ls[k]? with
      | some l => decide (spot ∈ l.2)
      | none => false).map fun k : Nat => V.int (k : Int)))) ⟨same_new nD, upd_same⟩ (fun j H' hj hh => ⟨rfl, ?_⟩) (fun H' hh => ?_)
    · obtain ⟨s1, hD⟩ := hh
      obtain ⟨v1, d1, q1, q2, q3⟩ := dps_at (dps_same s1 hd) (i := j) (by rw [List.length_map]; omega)
      rw [List.getElem?_map] at q2
      obtain ⟨l, hl1, rfl⟩ := Option.map_eq_some_iff.mp q2
      cases q3 with
      | tup st da =>
        cases da with
        | cons d1 da =>
          cases d1
          cases da with
          | cons d2 dn =>
            cases dn
            cases d2 with
            | tup st2 da2 =>
              have ex := dp_ints da2
              subst ex
              refine ⟨_, rfl, _, rfl, _, rfl, a, _, _, _, rfl, rfl, s1.seq hs, (by rw [Int.zero_add]; exact atI_nat q1), _, _, _, _, rfl, rfl, st, atI_nat (j := 1) rfl, ?_⟩
              refine ⟨_, _, rfl, .inr st2, rfl, flat_ints _, _, rfl, ?_⟩
              show if inV (.int spot) (l.2.map V.int) = true then _ else _
              rw [inV_int, filt_more]
              simp only [hl1]
              by_cases c : spot ∈ l.2
              · rw [decide_eq_true c]
                refine LK.ifT rfl ⟨_, rfl, _, hD, ?_, (fun b o e => ?_), ?_⟩
                · rw [List.length_map]
                  have z := List.length_filter_le (fun k => match ls[k]? with
                    | some l => decide (spot ∈ l.2)
                    | none => false) (List.range j)
                  rw [List.length_range] at z
                  exact Nat.lt_of_le_of_lt z (Nat.lt_of_lt_of_le (Nat.lt_of_lt_of_le hj (by omega : xs.length ≤ 100000)) (by decide))
                · rw [upd_ne (ne_of_none e nD)]
                  exact s1 b o e
                · rw [upd_same]
                  simp
              · rw [decide_eq_false c]
                refine LK.ifF rfl ⟨s1, ?_⟩
                simpa using hD
    · obtain ⟨s1, hD⟩ := hh
      refine k H' D nD s1 ?_
      rw [hD, len]
      rfl
end
end K1
/-! Threads: the laws' letters, the words made of them. -/
namespace LK
open PySem PySem.Spec PyProof.Rows L2
def abc : Str := "abcdefghijklmnopqrstuvwxyz"
/-- the letter of number m -/
def lett (m : Nat) : Str := ⟨#[97 + m]⟩
theorem abc_len : abc.length ≤ sizeLine := by decide +kernel
theorem abc_at {i : Int} (h0 : 0 ≤ i) (h : i < 26) : atI abc.cps.toList i = some (97 + i.toNat) := by
  obtain ⟨n, rfl⟩ := Int.eq_ofNat_of_zero_le h0
  have : ∀ n < 26, atI abc.cps.toList ((n : Nat) : Int) = some (97 + n) := by decide +kernel
  exact this n (by omega)
/-- one to eight small letters -/
def Lt (z : Str) : Prop := ∀ c ∈ z.cps.toList, 97 ≤ c ∧ c ≤ 122
def Yn (z : Str) : Prop := 1 ≤ z.length ∧ z.length ≤ 8 ∧ Lt z
theorem len_app (x y : Str) : (x ++ y).length = x.length + y.length := by
  show (x ++ y).cps.size = x.cps.size + y.cps.size
  rw [PySem.Str.cps_append, Array.size_append]
theorem lt_app {x y : Str} (a : Lt x) (b : Lt y) : Lt (x ++ y) := fun c h => by
  rw [PySem.Str.cps_append, Array.toList_append, List.mem_append] at h
  exact h.elim (a c) (b c)
theorem lt_lett {m : Nat} (h : m < 26) : Lt (lett m) := fun c e => by
  have : c = 97 + m := by simpa [lett] using e
  omega
theorem len_lett (m : Nat) : (lett m).length = 1 := rfl
theorem lt_cut {z : Str} (h : Lt z) (lo hi : Option Int) : Lt (cutS z lo hi) := fun c e => by
  refine h c ?_
  unfold cutS at e
  simp only [] at e
  exact List.mem_of_mem_drop (List.mem_of_mem_take e)
theorem join_lt : ∀ (ys : List Str), (∀ y ∈ ys, Lt y) → Lt (Str.join "" ys) ∧ (Str.join "" ys).length = (ys.map (·.length)).sum
  | [], _ => ⟨fun c e => by rw [show (Str.join "" []).cps.toList = [] by decide +kernel] at e; exact absurd e List.not_mem_nil, rfl⟩
  | [y], h => ⟨h y (List.mem_cons_self ..), by simp [Str.join]⟩
  | y :: z :: r, h => by
    obtain ⟨a, b⟩ := join_lt (z :: r) fun x hx => h x (List.mem_cons_of_mem _ hx)
    have e0 : Lt ("" : Str) := fun c e => by rw [show ("" : Str).cps.toList = [] by decide +kernel] at e; exact absurd e List.not_mem_nil
    have z0 : ("" : Str).length = 0 := by decide +kernel
    refine ⟨lt_app (lt_app (h y (List.mem_cons_self ..)) e0) a, ?_⟩
    show (y ++ "" ++ Str.join "" (z :: r)).length = _
    rw [len_app, len_app, b, z0]
    simp only [List.map_cons, List.sum_cons]
    omega
theorem sum_ones : ∀ (ys : List Str), (∀ y ∈ ys, y.length = 1) → (ys.map (·.length)).sum = ys.length
  | [], _ => rfl
  | y :: r, h => by
    rw [List.map_cons, List.sum_cons, h y (List.mem_cons_self ..), sum_ones r fun x hx => h x (List.mem_cons_of_mem _ hx), List.length_cons, Nat.add_comm]
theorem join_ab (ys : List Str) (h : ∀ y ∈ ys, Lt y ∧ y.length = 1) : Lt (Txt.join "" ys) ∧ (Txt.join "" ys).length = ys.length := by
  show Lt (Builtin.Str.glued "" ys) ∧ (Builtin.Str.glued "" ys).length = _
  rw [StrLaws.glued_eq_join]
  obtain ⟨a, b⟩ := join_lt ys fun y hy => (h y hy).1
  exact ⟨a, b.trans (sum_ones ys fun y hy => (h y hy).2)⟩
theorem app_inj {m n k : Nat} (e : lett m ++ lett k = lett n ++ lett k) : m = n := by
  have e1 : (lett m ++ lett k).cps.toList = (lett n ++ lett k).cps.toList := by rw [e]
  rw [PySem.Str.cps_append, PySem.Str.cps_append, Array.toList_append, Array.toList_append] at e1
  simp [lett] at e1
  exact e1
/-- more pigeons than holes -/
theorem sub_len {α : Type} [DecidableEq α] : ∀ (xs ys : List α), xs.Nodup → (∀ x ∈ xs, x ∈ ys) → xs.length ≤ ys.length
  | [], _, _, _ => Nat.zero_le _
  | x :: r, ys, nd, h => by
    have hx := h x (List.mem_cons_self ..)
    have l := List.length_erase_of_mem hx
    have p : 0 < ys.length := List.length_pos_of_mem hx
    have nd' := List.nodup_cons.mp nd
    have := sub_len r (ys.erase x) nd'.2 fun y hy => (List.mem_erase_of_ne (fun e => nd'.1 (by rw [← e]; exact hy))).mpr (h y (List.mem_cons_of_mem _ hy))
    simp only [List.length_cons]
    omega
theorem hole {α : Type} [DecidableEq α] (xs ys : List α) (nd : xs.Nodup) (l : ys.length < xs.length) : ∃ x ∈ xs, x ∉ ys := by
  by_cases h : ∃ x ∈ xs, x ∉ ys
  · exact h
  · have := sub_len xs ys nd fun x hx => by
      by_cases e : x ∈ ys
      · exact e
      · exact absurd ⟨x, hx, e⟩ h
    omega
/-- the words that are spare -/
def spare (s k : Nat) : List Str := (List.range 26).map fun t => lett ((s + t) % 26) ++ lett k
theorem spare_nodup (s k : Nat) (h : s < 26) : (spare s k).Nodup := by
  have nd : ∀ s < 26, ((List.range 26).map fun t => (s + t) % 26).Nodup := by decide +kernel
  have e : spare s k = ((List.range 26).map fun t => (s + t) % 26).map fun m => lett m ++ lett k := by
    unfold spare
    rw [List.map_map]
    rfl
  rw [e]
  exact List.Pairwise.map _ (fun a b ne q => ne (app_inj q)) (nd s h)
theorem spare_yn {s k : Nat} (hk : k < 26) {w : Str} (h : w ∈ spare s k) : Yn w := by
  obtain ⟨t, _, rfl⟩ := List.mem_map.mp h
  refine ⟨?_, ?_, lt_app (lt_lett (Nat.mod_lt _ (by decide))) (lt_lett hk)⟩
  · rw [len_app, len_lett, len_lett]
    decide
  · rw [len_app, len_lett, len_lett]
    decide
theorem spare_free {s k : Nat} (h : s < 26) (found : List Str) (l : found.length < 26) : (spare s k).filter (fun w => decide (w ∉ found)) ≠ [] := by
  obtain ⟨w, hw, n⟩ := hole (spare s k) found (spare_nodup s k h) (by rw [spare, List.length_map, List.length_range]; exact l)
  intro e
  have : w ∈ (spare s k).filter (fun w => decide (w ∉ found)) := List.mem_filter.mpr ⟨hw, decide_eq_true n⟩
  rw [e] at this
  exact List.not_mem_nil this
theorem cut_max (z : Str) (lo hi : Option Int) : (cutS z lo hi).length ≤ HT.sIx z.length z.length hi - HT.sIx z.length 0 lo := by
  show (((z.cps.toList.drop (HT.sIx z.length 0 lo)).take (HT.sIx z.length z.length hi - HT.sIx z.length 0 lo)).toArray).size ≤ _
  rw [List.size_toArray, List.length_take]
  exact Nat.min_le_left _ _
theorem cut_seven (z : Str) : (cutS z none (some 7)).length ≤ 7 := by
  refine Nat.le_trans (cut_max z _ _) ?_
  rw [show HT.sIx z.length z.length (some 7) = min 7 z.length from HT.sIx_nat _ _ 7, HT.sIx_none]
  omega
theorem cut_last {z : Str} (h : z.length ≤ 8) : (cutS z none (some (-1))).length ≤ 7 := by
  refine Nat.le_trans (cut_max z _ _) ?_
  have : HT.sIx z.length z.length (some (-1)) = ((-1 : Int) + (z.length : Int)).toNat := rfl
  rw [this, HT.sIx_none]
  omega
theorem yn_one {y : Str} (m : Nat) (hm : m < 26) (l : y.length ≤ 7) (h : Lt y) : Yn (y ++ lett m) := by
  refine ⟨?_, ?_, lt_app h (lt_lett hm)⟩ <;> (rw [len_app, len_lett]; omega)
/-- texts of small letters are read as data -/
theorem ok_lt {z : Str} (h : Lt z) : PyData.canLay0 (.str z) = true := by
  show z.cps.all (· < 0x110000) = true
  rw [Array.all_eq_true_iff_forall_mem]
  intro c hc
  have := h c (by simpa using hc)
  exact decide_eq_true (by omega)
theorem lay_strs : ∀ ys : List Str, (∀ y ∈ ys, Lt y) → PyData.canLayAll0 (ys.map PyData.str) = true ∧ PyData.depthAll (ys.map PyData.str) ≤ 1
  | [], _ => ⟨rfl, by decide⟩
  | y :: r, h => by
    obtain ⟨a, b⟩ := lay_strs r fun x hx => h x (List.mem_cons_of_mem _ hx)
    constructor
    · rw [List.map_cons, PyData.canLayAll0, ok_lt (h y (List.mem_cons_self ..)), a]
      rfl
    · simp only [List.map_cons, PyData.depthAll, PyData.depth]
      omega
theorem dp_strs {K : PySem.W.Frag} {H : Hp} : ∀ ys : List Str, DpAll K H (ys.map V.str) (ys.map PyData.str)
  | [] => .nil
  | y :: r => .cons (.str y) (dp_strs r)
theorem sh_strs {ys : List Str} (h : ∀ y ∈ ys, Lt y) : SeqAt.shaped (.list (ys.map PyData.str)) = true := by
  obtain ⟨a, b⟩ := lay_strs ys h
  refine shaped_of (by simpa only [PyData.canLay0] using a) ?_
  simp only [PyData.depth]
  omega
theorem eqv_nil (ys : List Str) : PyData.eqv (.list (ys.map PyData.str)) (.list []) = ys.isEmpty := by
  cases ys with
  | nil => rfl
  | cons y r => rfl
theorem at_last {ys : List Str} (h : ys ≠ []) : ∃ y ∈ ys, atI (ys.map V.str) (-1) = some (.str y) := by
  refine ⟨ys.getLast h, List.getLast_mem h, ?_⟩
  have e : ys.map V.str = ys.dropLast.map V.str ++ [V.str (ys.getLast h)] := by
    have := congrArg (List.map V.str) (List.dropLast_concat_getLast h)
    rw [List.map_append] at this
    exact this.symm
  rw [e]
  exact atI_last _ _
theorem inV_str (y : Str) : ∀ ys : List Str, inV (.str y) (ys.map V.str) = decide (y ∈ ys)
  | [] => by simp [inV]
  | x :: r => by
    have h := inV_str y r
    unfold inV at h ⊢
    rw [List.map_cons, List.any_cons, h]
    by_cases e : x = y
    · subst e
      simp [eqV]
    · have e' : ¬ y = x := fun z => e z.symm
      simp [eqV, e, e']
theorem flat_strs (ys : List Str) : (ys.map V.str).all flatV = true := by
  rw [List.all_map]
  exact List.all_eq_true.mpr fun _ _ => rfl
/-- the rest, from a word that holds at its start -/
theorem seqJ {A R : TS} {D : Ends} {σ : St} {H : Hp} (J : St → Hp → Prop) (hR : ∀ σ' H', J σ' H' → R D σ' H') (h : (∀ σ' H', J σ' H' → R D σ' H') → tSeq A R D σ H) : tSeq A R D σ H := h hR
end LK
/-! Sorted texts: two sorted lists without doubles and with the same members are one; what is left when equal neighbours are thrown out. -/
namespace LK
open PySem PySem.Spec PyProof.Rows L2
/-- a is not behind b -/
def leS (a b : Str) : Prop := ¬ b.cps.toList < a.cps.toList
theorem leS_trans {a b c : Str} (h : leS a b) (k : leS b c) : leS a c := List.not_lt.mpr (List.le_trans (List.not_lt.mp h) (List.not_lt.mp k))
theorem leS_anti {a b : Str} (h : leS a b) (k : leS b a) : a = b := by
  have e : a.cps.toList = b.cps.toList := List.le_antisymm (List.not_lt.mp h) (List.not_lt.mp k)
  obtain ⟨a⟩ := a
  obtain ⟨b⟩ := b
  exact congrArg Str.mk (Array.toList_inj.mp e)
theorem rising_pw : ∀ (r : List Str) (p : Str), risingS p r = true → (p :: r).Pairwise leS
  | [], p, _ => List.pairwise_singleton _ _
  | x :: r, p, h => by
    rw [risingS, Bool.and_eq_true] at h
    obtain ⟨h1, h2⟩ := h
    have t := rising_pw r x h2
    have px : leS p x := by
      unfold leS
      rw [ltCps_eq] at h1
      simpa using h1
    refine List.pairwise_cons.mpr ⟨fun y hy => ?_, t⟩
    rcases List.mem_cons.mp hy with rfl | hy
    · exact px
    · exact leS_trans px ((List.pairwise_cons.mp t).1 y hy)
theorem sorted_pw {l : List Str} (h : sortedS l = true) : l.Pairwise leS := by
  cases l with
  | nil => exact List.Pairwise.nil
  | cons x r => exact rising_pw r x h
theorem uniq_sorted : ∀ {l m : List Str}, l.Pairwise leS → m.Pairwise leS → l.Nodup → m.Nodup → (∀ x, x ∈ l ↔ x ∈ m) → l = m
  | [], [], _, _, _, _, _ => rfl
  | [], y :: m, _, _, _, _, h => absurd ((h y).2 List.mem_cons_self) List.not_mem_nil
  | x :: l, [], _, _, _, _, h => absurd ((h x).1 List.mem_cons_self) List.not_mem_nil
  | x :: l, y :: m, pl, pm, nl, nm, h => by
    obtain ⟨l1, l2⟩ := List.pairwise_cons.mp pl
    obtain ⟨m1, m2⟩ := List.pairwise_cons.mp pm
    obtain ⟨l3, l4⟩ := List.nodup_cons.mp nl
    obtain ⟨m3, m4⟩ := List.nodup_cons.mp nm
    have xy : x = y := by
      rcases List.mem_cons.mp ((h x).1 List.mem_cons_self) with e | e
      · exact e
      · rcases List.mem_cons.mp ((h y).2 List.mem_cons_self) with e' | e'
        · exact e'.symm
        · exact leS_anti (l1 y e') (m1 x e)
    subst xy
    refine congrArg (x :: ·) (uniq_sorted l2 m2 l4 m4 fun z => ?_)
    constructor
    · intro hz
      rcases List.mem_cons.mp ((h z).1 (List.mem_cons_of_mem _ hz)) with e | e
      · subst e
        exact absurd hz l3
      · exact e
    · intro hz
      rcases List.mem_cons.mp ((h z).2 (List.mem_cons_of_mem _ hz)) with e | e
      · subst e
        exact absurd hz m3
      · exact e
/-- item k stays where it is not its left neighbour -/
def newAt (zs : List Str) (k : Nat) : Bool := decide (k = 0) || !decide (zs[k]? = zs[k - 1]?)
/-- what is left of the first i -/
def leftS (zs : List Str) (i : Nat) : List Str := ((List.range i).filter (newAt zs)).filterMap (zs[·]?)
theorem left_succ {zs : List Str} {i : Nat} {x : Str} (h : zs[i]? = some x) : leftS zs (i + 1) = if newAt zs i = true then leftS zs i ++ [x] else leftS zs i := by
  unfold leftS
  rw [List.range_succ, List.filter_append, List.filterMap_append]
  by_cases q : newAt zs i = true
  · rw [if_pos q, List.filter_cons_of_pos q, List.filter_nil, List.filterMap_cons, h]
    rfl
  · rw [if_neg q, List.filter_cons_of_neg q, List.filter_nil, List.filterMap_nil, List.append_nil]
theorem left_len (zs : List Str) (i : Nat) : (leftS zs i).length ≤ i := by
  unfold leftS
  refine Nat.le_trans (List.length_filterMap_le _ _) (Nat.le_trans (List.length_filter_le _ _) ?_)
  rw [List.length_range]
  exact Nat.le_refl _
theorem left_sound {zs : List Str} (pw : zs.Pairwise leS) : ∀ i, i ≤ zs.length → (leftS zs i).Pairwise leS ∧ (leftS zs i).Nodup ∧ ∀ x, x ∈ leftS zs i ↔ x ∈ zs.take i
  | 0, _ => ⟨List.Pairwise.nil, List.nodup_nil, fun x => by simp [leftS]⟩
  | i + 1, hi => by
    obtain ⟨h1, h2, h3⟩ := left_sound pw i (Nat.le_of_succ_le hi)
    have at_ : zs[i]? = some zs[i] := List.getElem?_eq_getElem hi
    have tk : zs.take (i + 1) = zs.take i ++ [zs[i]] := by rw [List.take_add_one, at_]; rfl
    have before : ∀ y ∈ zs.take i, leS y zs[i] := fun y hy => by
      obtain ⟨j, hj, rfl⟩ := List.getElem_of_mem hy
      rw [List.length_take] at hj
      rw [List.getElem_take]
      exact List.pairwise_iff_getElem.mp pw j i (by omega) hi (by omega)
    rw [left_succ at_, tk]
    by_cases q : newAt zs i = true
    · rw [if_pos q]
      have fresh : zs[i] ∉ zs.take i := fun hy => by
        cases i with
        | zero => simp at hy
        | succ k =>
          have q' : ¬ zs[k + 1]? = zs[k]? := by simpa [newAt] using q
          have last : leS zs[k + 1] zs[k] := by
            obtain ⟨j, hj, e⟩ := List.getElem_of_mem hy
            rw [List.length_take] at hj
            rw [List.getElem_take] at e
            rw [← e]
            rcases Nat.lt_or_ge j k with lt | ge
            · exact List.pairwise_iff_getElem.mp pw j k (by omega) (by omega) lt
            · obtain rfl : j = k := by omega
              exact fun z => absurd z (List.lt_irrefl _)
          have e := leS_anti last (before _ (by
            have : zs[k] = (zs.take (k + 1))[k]'(by rw [List.length_take]; omega) := by rw [List.getElem_take]
            rw [this]
            exact List.getElem_mem _))
          exact q' (by rw [List.getElem?_eq_getElem hi, List.getElem?_eq_getElem (by omega : k < zs.length), e])
      refine ⟨List.pairwise_append.mpr ⟨h1, List.pairwise_singleton _ _, fun y hy z hz => ?_⟩, List.nodup_append.mpr ⟨h2, (by simp), fun y hy z hz => ?_⟩, fun x => ?_⟩
      · obtain rfl := List.mem_singleton.mp hz
        exact before y ((h3 y).1 hy)
      · obtain rfl := List.mem_singleton.mp hz
        exact fun e => fresh (e ▸ (h3 y).1 hy)
      · rw [List.mem_append, List.mem_append, h3 x]
    · rw [if_neg q]
      refine ⟨h1, h2, fun x => ?_⟩
      rw [List.mem_append, h3 x, List.mem_singleton]
      refine ⟨Or.inl, fun z => z.elim id fun e => ?_⟩
      cases i with
      | zero => exact absurd (by rfl : newAt zs 0 = true) q
      | succ k =>
        have q' : zs[k + 1]? = zs[k]? := by simpa [newAt] using q
        rw [List.getElem?_eq_getElem hi, List.getElem?_eq_getElem (by omega : k < zs.length)] at q'
        rw [e, Option.some.inj q']
        have : zs[k] = (zs.take (k + 1))[k]'(by rw [List.length_take]; omega) := by rw [List.getElem_take]
        rw [this]
        exact List.getElem_mem _
/-- the sorted texts without doubles -/
theorem left_all {zs ys : List Str} (h : sortedS zs = true) (h1 : sortedS ys = true) (h2 : ys.Nodup) (h3 : ∀ y, y ∈ ys ↔ y ∈ zs) : leftS zs zs.length = ys := by
  obtain ⟨a, b, c⟩ := left_sound (sorted_pw h) zs.length (Nat.le_refl _)
  refine uniq_sorted a (sorted_pw h1) b h2 fun x => ?_
  rw [c x, List.take_length, h3 x]
end LK
namespace K1
open PySem PySem.Spec PyProof.Rows L2 LK
abbrev sYarns : Stmt := top 23
/-- a list of texts at D -/
def Ys (H : Hp) (D : Addr) (ys : List Str) : Prop := H D = some (.lst (ys.map V.str))
/-- many threads, drawn -/
def spYarns : Sp := fun vs H Q _ => ∃ (c : Addr) (many B : Nat), vs = [.ref c, .int many] ∧ many ≤ 25 ∧ CR H c B ∧ B + 1000 < 10 ^ 12 ∧
  ∀ (D : Addr) (H' : Hp) (ys : List Str), H D = none → CR H' c (B + 1000) → Bt c H H' → Ys H' D ys → ys.length = many → (∀ y ∈ ys, Yn y) → Q (.ref D) H'
/-- what stays through the turns -/
def Wd (H Hn : Hp) (c D : Addr) (B : Nat) (ys : List Str) : Prop := c ≠ D ∧ CR Hn c B ∧ Bt c H Hn ∧ Ys Hn D ys
theorem Wd.call {H Hn H' : Hp} {c D : Addr} {B : Nat} {ys : List Str} (h : Wd H Hn c D B ys) (h1 : CR H' c (B + 1)) (bt : Bt c Hn H') : Wd H H' c D (B + 1) ys := ⟨h.1, h1, h.2.2.1.trans bt, bt _ _ h.1.symm h.2.2.2⟩
theorem Wd.new {H Hn : Hp} {c D p : Addr} {B : Nat} {ys : List Str} {o : HO} (h : Wd H Hn c D B ys) (np : Hn p = none) : Wd H (upd Hn p o) c D B ys :=
  ⟨h.1, h.2.1.same (same_new np), h.2.2.1.trans (Bt.of (same_new np)), same_new np _ _ h.2.2.2⟩
theorem Wd.gone {H Hn : Hp} {c D p : Addr} {B : Nat} {ys : List Str} (h : Wd H Hn c D B ys) (np : Hn p = none) : H p = none ∧ p ≠ c ∧ p ≠ D := by
  have pc : p ≠ c := (h.2.1.fresh np).symm
  refine ⟨?_, pc, (ne_of_none h.2.2.2 np).symm⟩
  cases e : H p with
  | none => rfl
  | some o => rw [h.2.2.1 p o pc e] at np; cases np
theorem Wd.upd {H Hn : Hp} {c D p : Addr} {B : Nat} {ys : List Str} {o : HO} (h : Wd H Hn c D B ys) (g : H p = none ∧ p ≠ c ∧ p ≠ D) : Wd H (upd Hn p o) c D B ys :=
  ⟨h.1, h.2.1.upd g.2.1, fun b u n e => by rw [upd_ne (ne_of_none e g.1)]; exact h.2.2.1 b u n e, by unfold Ys; rw [upd_ne g.2.2.symm]; exact h.2.2.2⟩
theorem Wd.mono {H Hn : Hp} {c D : Addr} {B B' : Nat} {ys : List Str} (h : Wd H Hn c D B ys) (l : B ≤ B') : Wd H Hn c D B' ys := ⟨h.1, h.2.1.mono l, h.2.2⟩
theorem Wd.app {H Hn : Hp} {c D : Addr} {B : Nat} {ys : List Str} (h : Wd H Hn c D B ys) (nD : H D = none) (y : Str) : Wd H (L2.upd Hn D (.lst (ys.map V.str ++ [V.str y]))) c D B (ys ++ [y]) :=
  ⟨h.1, h.2.1.upd h.1.symm, fun b u n e => by rw [upd_ne (ne_of_none e nD)]; exact h.2.2.1 b u n e, by unfold Ys; rw [upd_same, List.map_append]; rfl⟩
theorem pick3 {d : Int} {k : Int} (d0 : 0 ≤ d) (d1 : d < 8) (k0 : 0 ≤ k) (k1 : k < 3) : ∃ z : Int, 0 ≤ z ∧ z < 8 ∧ atI [V.int 0, .int 1, .int d] k = some (.int z) := by
  obtain rfl | rfl | rfl : k = 0 ∨ k = 1 ∨ k = 2 := by omega
  · exact ⟨0, by decide, by decide, rfl⟩
  · exact ⟨1, by decide, by decide, rfl⟩
  · exact ⟨d, d0, d1, rfl⟩
section
variable {P : Program} {w : World} {K : PySem.W.Frag} {mg : Str → Option Value} {base : Heap}
theorem scYarns : FnScope ["creel", "many", "signs", "found", "k", "size", "sign", "yarn", "spare", "turn", "word"] ["creel", "many"] (defScope sYarns) := ⟨rfl, rfl, rfl, by decide +kernel, rfl, by decide +kernel, by decide +kernel⟩
theorem ninq {X : Cx} {K : PySem.W.Frag} (e : X.K = K := by rfl) : OpR X (compareOp .NotIn) (rIn K true) := e ▸ op_notIn_seq
theorem ok_yarns {f fp : Addr} {fd fdp : FuncData} (F : Fun K "_law_yarns" "_law_yarns" sYarns f fd) (Fp : Fun K "_law_ply" "_law_ply" sPly fp fdp) (B : Bl mg) (gp : mg "_law_ply" = some (.ref fp)) (bp : Binds K fdp ["creel", "span"] []) (Gp : FnOk P w K mg base CX0 1 fp fdp ["creel", "span"] spPly) :
    FnOk P w K mg base CX0 2 f fd ["creel", "many"] spYarns := by
  refine F.ok scYarns (fun vs H Q E h => ?_) (fun cdv A outer s H vs Q E hr h => ?_)
  · obtain ⟨c, many, bb, rfl, _⟩ := h
    rfl
  · obtain ⟨c, many, bb, rfl, hm, hc, hB, k⟩ := h
    refine ⟨_, pss_cons (ps_asg (pe_tup (pa_cons pe_str (pa_cons (pe_lst pa_nil) pa_nil))) (pg_tup rfl (pgs_cons (pg_name (i := 2) scYarns.nd rfl (Or.inr rfl)) (pgs_cons (pg_name (i := 3) scYarns.nd rfl (Or.inr rfl)) pgs_nil))))
      (pss_cons (ps_for PassesOwn.never rfl (pi_range1 (by rfl) (B "range" (by decide)) (pa_cons (pv 1) pa_nil)) (pg_name (i := 4) scYarns.nd rfl (Or.inr rfl)) (pss_cons (ps_asg (pe_tup (pa_cons (pe_ix ix_list (pe_lst (pa_cons pe_int (pa_cons pe_int (pa_cons (pe_call (E := E0) Gp hr rfl gp Fp.kp bp .nil pass0 (pa_cons (pv 0) (pa_cons pe_int pa_nil))) pa_nil)))) (pe_call (E := E0) Gp hr rfl gp Fp.kp bp .nil pass0 (pa_cons (pv 0) (pa_cons pe_int pa_nil))) (fun _ _ => rfl)) (pa_cons (pe_call (E := E0) Gp hr rfl gp Fp.kp bp .nil pass0 (pa_cons (pv 0) (pa_cons pe_int pa_nil))) pa_nil))) (pg_tup rfl (pgs_cons (pg_name (i := 5) scYarns.nd rfl (Or.inl rfl)) (pgs_cons (pg_name (i := 6) scYarns.nd rfl (Or.inr rfl)) pgs_nil))))
      (pss_cons (ps_set (i := 7) scYarns.nd rfl (Or.inl rfl) (pe_op op_add_str (pe_ix ix_str (pv 2) (pv 6) (fun _ _ => rfl)) (pe_join pe_str (pe_lc (own := [("turn", 9)]) (g := gName 9) (tt := tYes) rfl scYarns.nd (pi_range1 (by rfl) (B "range" (by decide)) (pa_cons (pv 5) pa_nil)) (blkOk_by (N := ["creel", "many", "signs", "found", "k", "size", "sign", "yarn", "spare", "turn", "word"]) (sc := defScope sYarns) (by decide +kernel)) (fun _ _ _ _ _ => pg_name (i := 9) scYarns.nd rfl (Or.inl rfl)) (fun _ _ _ _ _ => pts_nil) (fun _ _ _ _ _ => pe_ix ix_str (pv 2) (pe_call (E := E0) Gp hr rfl gp Fp.kp bp .nil pass0 (pa_cons (pv 0) (pa_cons pe_int pa_nil))) (fun _ _ => rfl))))))
      (pss_cons (ps_if (PW.pt (pw_and (pt_cmpR (op_neD hr.units) (pv 3) (pe_lst pa_nil) (nomark _)) (pw_and1 (pt_cmpR op_eq (pe_call (E := E0) Gp hr rfl gp Fp.kp bp .nil pass0 (pa_cons (pv 0) (pa_cons pe_int pa_nil))) pe_int (nomark _))))) (pss_one (ps_set (i := 7) scYarns.nd rfl (Or.inl rfl) (pe_ix ix_list (pe_lst (pa_cons (pe_op op_add_str (pe_slice sl_str (pe_ix ix_list (pv 3) (pe_un un_neg pe_int) (fun _ _ => rfl)) po_none (po_some pe_int)) (pe_ix ix_str (pv 2) (pv 6) (fun _ _ => rfl))) (pa_cons (pe_op op_add_str (pe_slice sl_str (pe_ix ix_list (pv 3) (pe_un un_neg pe_int) (fun _ _ => rfl)) po_none (po_some (pe_un un_neg pe_int))) (pe_ix ix_str (pv 2) (pv 6) (fun _ _ => rfl))) pa_nil))) (pe_call (E := E0) Gp hr rfl gp Fp.kp bp .nil pass0 (pa_cons (pv 0) (pa_cons pe_int pa_nil))) (fun _ _ => rfl)))) pss_nil)
      (pss_cons (ps_setLc (i := 8) (own := [("turn", 9)]) (g := gName 9) (tt := tYes) rfl scYarns.nd rfl rfl (sw_true rfl rfl rfl (by decide +kernel)) (pi_range1 (by rfl) (B "range" (by decide)) (pa_cons pe_int pa_nil)) (blkOk_by (N := ["creel", "many", "signs", "found", "k", "size", "sign", "yarn", "spare", "turn", "word"]) (sc := defScope sYarns) (by decide +kernel)) (fun _ _ _ _ _ => pg_name (i := 9) scYarns.nd rfl (Or.inl rfl)) (fun _ _ _ _ _ => pts_nil) (fun _ _ _ _ _ => pe_op op_add_str (pe_ix ix_str (pv 2) (pe_op op_mod (pe_op op_add (pv 6) (pv 9)) pe_int) (fun _ _ => rfl)) (pe_ix ix_str (pv 2) (pv 4) (fun _ _ => rfl))))
      (pss_one (ps_expr (pe_bm PySem.F.plainAttrs_list PySem.F.slot_list_append PySem.F.type_list_append mt_append (pv 3) (pa_cons (pe_ifExp (pt_cmpR op_notIn_seq (pv 7) (pv 3) (by rfl)) (pv 7) (pe_ix ix_list (pe_lc (own := [("word", 10)]) (g := gName 10) rfl scYarns.nd (pi_list (pv 8)) (blkOk_by (N := ["creel", "many", "signs", "found", "k", "size", "sign", "yarn", "spare", "turn", "word"]) (sc := defScope sYarns) (by decide +kernel)) (fun _ _ _ _ _ => pg_name (i := 10) scYarns.nd rfl (Or.inl rfl)) (fun _ _ _ _ _ => pts_one (pt_cmpR (ninq (K := K)) (pv 10) (pv 3) (by rfl))) (fun _ _ _ _ _ => pv 10)) pe_int (fun _ _ => rfl))) pa_nil)))))))))
      (pss_one (ps_ret (pv 3)))), ?_⟩
    refine ⟨(by show 0 ≤ sizeLine; decide), fun D nD => ⟨(by show 2 ≤ sizeLine; decide), fun T nT => ⟨T, _, rfl, .inl (.inl upd_same), rfl, _, _, rfl, _, _, rfl, rfl, ?_⟩⟩⟩
    have cD : c ≠ D := hc.fresh nD
    have cT : c ≠ T := by
      intro e
      subst e
      obtain ⟨_, _, _, e, _⟩ := hc
      rw [upd_ne cD, e] at nT
      cases nT
    have DT : D ≠ T := by
      intro e
      subst e
      rw [upd_same] at nT
      cases nT
    refine ⟨_, rfl, (many : Int), rfl, by omega, by omega, ?_⟩
    refine for_range (lo := 0) (n := many) (fun i σ H' => ∃ (ys : List Str) (o4 o5 o6 o7 o8 : Option V), σ = [some (.ref c), some (.int many), some (.str abc), some (.ref D), o4, o5, o6, o7, o8, none, none] ∧ ys.length = i ∧ (∀ y ∈ ys, Yn y) ∧ Wd H H' c D (bb + 40 * i) ys)
      ⟨[], _, _, _, _, _, rfl, rfl, fun y h => absurd h List.not_mem_nil, cD, (hc.upd cD.symm).upd cT.symm, fun b o _ e => same_new nT _ _ (same_new nD _ _ e), by unfold Ys; rw [upd_ne DT, upd_same]; rfl⟩ (fun i σ H1 hi hI => ?_) (fun σ H1 hI => ?_)
    · obtain ⟨ys, o4, o5, o6, o7, o8, rfl, hl, hn, hw⟩ := hI
      refine ⟨_, rfl, c, 8, _, rfl, by decide, by decide, hw.2.1, by omega, fun d1 H2 d10 d11 h2 b2 n2 => ?_⟩
      have hw2 := hw.call h2 b2
      refine ⟨(by show 3 ≤ sizeLine; decide), fun L nL => ?_⟩
      have hw3 := hw2.new (o := .lst [.int 0, .int 1, .int d1]) nL
      refine ⟨_, rfl, c, 3, _, rfl, by decide, by decide, hw3.2.1, by omega, fun d3 H3 d30 d31 h3 b3 n3 => ?_⟩
      have hw4 := hw3.call h3 b3
      have hL : H3 L = some (.lst [.int 0, .int 1, .int d1]) := b3 _ _ (hw2.2.1.fresh nL).symm upd_same
      obtain ⟨z, z0, z1, hz⟩ := pick3 d10 d11 d30 d31
      refine ⟨L, _, _, _, rfl, rfl, SqL.of hL, hz, ?_⟩
      refine ⟨_, rfl, c, 26, _, rfl, by decide, by decide, hw4.2.1, by omega, fun d4 H4 d40 d41 h4 b4 n4 => ?_⟩
      have hw5 := hw4.call h4 b4
      refine ⟨(by show 2 ≤ sizeLine; decide), fun T2 nT2 => ⟨T2, _, rfl, .inl (.inl upd_same), rfl, _, _, rfl, _, _, rfl, rfl, ?_⟩⟩
      have hw6 := hw5.new (o := .tup [.int z, .int d4]) nT2
      refine ⟨_, rfl, _, rfl, abc, d4, _, rfl, rfl, abc_len, abc_at d40 d41, ?_⟩
      refine ⟨⟨_, rfl⟩, _, rfl, z, rfl, by omega, by omega, fun G nG => ?_⟩
      have gG := hw6.gone nG
      refine lc_range (lo := 0) (n := z.toNat) (fun j H' => ∃ zs : List Str, H' G = some (.lst (zs.map V.str)) ∧ zs.length = j ∧ (∀ y ∈ zs, Lt y ∧ y.length = 1) ∧ Wd H H' c D (bb + 40 * i + 3 + j) ys) ⟨[], upd_same, rfl, fun y h => absurd h List.not_mem_nil, hw6.upd gG⟩ (fun j H' hj hh => ⟨rfl, ?_⟩) (fun H' hh => ?_)
      · obtain ⟨zs, hG, hzl, hzs, hw7⟩ := hh
        refine ⟨_, rfl, _, rfl, c, 26, _, rfl, by decide, by decide, hw7.2.1, by omega, fun d5 H5 d50 d51 h5 b5 n5 => ?_⟩
        refine ⟨abc, d5, _, rfl, rfl, abc_len, abc_at d50 d51, _, b5 _ _ gG.2.1 hG, ?_, zs ++ [lett d5.toNat], ?_, ?_, ?_, ?_⟩
        · rw [List.length_map, hzl]
          have : j < 8 := by omega
          exact Nat.lt_of_lt_of_le this (by decide)
        · rw [upd_same, List.map_append]
          rfl
        · rw [List.length_append, hzl]
          rfl
        · intro y hy
          rcases List.mem_append.mp hy with hy | hy
          · exact hzs y hy
          · obtain rfl := List.mem_singleton.mp hy
            exact ⟨lt_lett (by omega), rfl⟩
        · exact (hw7.call h5 b5).upd gG
      · obtain ⟨zs, hG, hzl, hzs, hw7⟩ := hh
        obtain ⟨jl, jn⟩ := join_ab zs hzs
        have y1 : Yn (lett d4.toNat ++ Txt.join "" zs) := by
          refine ⟨?_, ?_, lt_app (lt_lett (by omega)) jl⟩
          · rw [len_app, jn, hzl, len_lett]
            omega
          · rw [len_app, jn, hzl, len_lett]
            omega
        have s1 := sum_ones zs fun y hy => (hzs y hy).2
        refine ⟨_, _, zs, rfl, rfl, .inl (SqL.of hG), ?_, _, _, rfl, rfl, ?_, ?_⟩
        · rw [s1, hzl]
          have : ("" : Str).length = 0 := by decide +kernel
          rw [this]
          omega
        · rw [jn, hzl]
          have : (lett d4.toNat).length + z.toNat ≤ 8 := by
            rw [len_lett]
            omega
          exact Nat.le_trans this (by decide)
        have hw8 := hw7.mono (B' := bb + 40 * i + 10) (by omega)
        have d4n : d4.toNat < 26 := by omega
        dsimp only [gName]
        refine seqJ (fun σ' H' => ∃ y : Str, σ' = [some (.ref c), some (.int many), some (.str abc), some (.ref D), some (.int (0 + (i : Int))), some (.int z), some (.int d4), some (.str y), o8, none, none] ∧ Yn y ∧ Wd H H' c D (bb + 40 * i + 12) ys) (fun σ' H8 hJ => ?_) (fun go => ?_)
        · obtain ⟨y, rfl, hy, hw9⟩ := hJ
          -- the spare words
          have iz : (0 + (i : Int)) = (i : Int) := Int.zero_add _
          refine ⟨26, rfl, by decide, by decide, fun S nS => ?_⟩
          have gS := hw9.gone nS
          refine lc_range (lo := 0) (n := 26) (fun j H' => H' S = some (.lst (((List.range j).map fun t => lett ((d4.toNat + t) % 26) ++ lett i).map V.str)) ∧ Wd H H' c D (bb + 40 * i + 12) ys) ⟨upd_same, hw9.upd gS⟩ (fun j H' hj hh => ⟨rfl, ?_⟩) (fun H' hh => ?_)
          · obtain ⟨hS, hwe⟩ := hh
            have m0 : 0 ≤ (d4 + (0 + (j : Int))) % 26 := Int.emod_nonneg _ (by decide)
            have m1 : (d4 + (0 + (j : Int))) % 26 < 26 := Int.emod_lt_of_pos _ (by decide)
            have m2 : ((d4 + (0 + (j : Int))) % 26).toNat = (d4.toNat + j) % 26 := by omega
            refine ⟨_, rfl, _, rfl, _, rfl, d4, _, rfl, rfl, _, _, rfl, rfl, (show (0 : Int) < 26 by decide), abc, _, _, rfl, rfl, abc_len, abc_at m0 m1, ?_⟩
            refine ⟨_, rfl, _, rfl, abc, (0 + (i : Int)), _, rfl, rfl, abc_len, abc_at (by omega) (by omega), _, _, rfl, rfl, ?_, _, hS, ?_, ?_, hwe.upd gS⟩
            · show 1 + 1 ≤ sizeLine
              decide
            · rw [List.length_map, List.length_map, List.length_range]
              exact Nat.lt_trans hj (by decide)
            · rw [upd_same, List.range_succ, List.map_append, List.map_append, m2]
              have : (0 + (i : Int)).toNat = i := by omega
              rw [this]
              rfl
          · obtain ⟨hS, hwe⟩ := hh
            have hS' : H' S = some (.lst ((spare d4.toNat i).map V.str)) := hS
            refine ⟨_, rfl, .inl ⟨rfl, _, SqL.of hwe.2.2.2⟩, _, rfl, _, rfl, D, _, rfl, .inl (SqL.of hwe.2.2.2), rfl, LK.flat_strs ys, _, rfl, ?_⟩
            have yl : (ys.map V.str).length < sizeLine := by
              rw [List.length_map, hl]
              exact Nat.lt_of_lt_of_le (by omega : i < 100) (by decide)
            show if (!inV (.str y) (ys.map V.str)) = true then _ else _
            rw [inV_str]
            by_cases hin : y ∈ ys
            · rw [decide_eq_true hin]
              refine LK.ifF rfl ?_
              refine ⟨_, rfl, S, rfl, ⟨_, SqL.of hS'⟩, fun G2 nG2 => ?_⟩
              have gG2 := hwe.gone nG2
              have sG2 : S ≠ G2 := ne_of_none hS' nG2
              refine lc_list (K := K) (a := S) (xs := (spare d4.toNat i).map V.str) (fun j H' => H' G2 = some (.lst ((((spare d4.toNat i).take j).filter fun w => decide (w ∉ ys)).map V.str)) ∧ H' S = some (.lst ((spare d4.toNat i).map V.str)) ∧ Wd H H' c D (bb + 40 * i + 12) ys)
                ⟨upd_same, by rw [upd_ne sG2]; exact hS', hwe.upd gG2⟩ (fun j H' hj hh => SqL.of hh.2.1) (fun j x H' hx hh => ⟨rfl, ?_⟩) (fun H' hh => ?_)
              · obtain ⟨h1, h2, h3⟩ := hh
                rw [List.getElem?_map] at hx
                obtain ⟨w1, hw1, rfl⟩ := Option.map_eq_some_iff.mp hx
                refine ⟨_, rfl, _, rfl, D, _, rfl, .inl (SqL.of h3.2.2.2), rfl, LK.flat_strs ys, _, rfl, ?_⟩
                show if (!inV (.str w1) (ys.map V.str)) = true then _ else _
                have tk : (spare d4.toNat i).take (j + 1) = (spare d4.toNat i).take j ++ [w1] := by
                  rw [List.take_succ, hw1]
                  rfl
                rw [inV_str, tk, List.filter_append]
                by_cases hin1 : w1 ∈ ys
                · rw [decide_eq_true hin1]
                  refine LK.ifF rfl ⟨?_, h2, h3⟩
                  rw [h1]
                  simp [hin1]
                · rw [decide_eq_false hin1]
                  refine LK.ifT rfl ⟨_, rfl, _, h1, ?_, ?_, ?_, h3.upd gG2⟩
                  · rw [List.length_map]
                    have z1 := List.length_filter_le (fun w => decide (w ∉ ys)) ((spare d4.toNat i).take j)
                    have z2 : ((spare d4.toNat i).take j).length ≤ 26 := by
                      rw [List.length_take]
                      have : (spare d4.toNat i).length = 26 := by rw [spare, List.length_map, List.length_range]
                      omega
                    exact Nat.lt_of_le_of_lt (Nat.le_trans z1 z2) (by decide)
                  · rw [upd_same]
                    simp [hin1]
                  · rw [upd_ne sG2]
                    exact h2
              · obtain ⟨h1, h2, h3⟩ := hh
                have full : (spare d4.toNat i).take ((spare d4.toNat i).map V.str).length = spare d4.toNat i := by
                  rw [List.length_map, List.take_length]
                rw [full] at h1
                have fr := spare_free (s := d4.toNat) (k := i) d4n ys (by omega)
                obtain ⟨w1, ws, hws⟩ : ∃ w1 ws, (spare d4.toNat i).filter (fun w => decide (w ∉ ys)) = w1 :: ws := by
                  cases e : (spare d4.toNat i).filter (fun w => decide (w ∉ ys)) with
                  | nil => exact absurd e fr
                  | cons a b => exact ⟨a, b, rfl⟩
                have wm : w1 ∈ spare d4.toNat i := (List.mem_filter.mp (hws ▸ List.mem_cons_self .. : w1 ∈ (spare d4.toNat i).filter (fun w => decide (w ∉ ys)))).1
                rw [hws] at h1
                refine ⟨G2, _, 0, _, rfl, rfl, SqL.of h1, atI_nat (j := 0) rfl, D, _, _, rfl, rfl, h3.2.2.2, yl, ys ++ [w1], _, _, _, _, _, rfl, ?_, ?_, (h3.app nD w1).mono (by omega)⟩
                · rw [List.length_append, hl]
                  rfl
                · intro q hq
                  rcases List.mem_append.mp hq with hq | hq
                  · exact hn q hq
                  · obtain rfl := List.mem_singleton.mp hq
                    exact spare_yn (by omega) wm
            · rw [decide_eq_false hin]
              refine LK.ifT rfl ⟨_, rfl, D, _, _, rfl, rfl, hwe.2.2.2, yl, ys ++ [y], _, _, _, _, _, rfl, ?_, ?_, (hwe.app nD y).mono (by omega)⟩
              · rw [List.length_append, hl]
                rfl
              · intro q hq
                rcases List.mem_append.mp hq with hq | hq
                · exact hn q hq
                · obtain rfl := List.mem_singleton.mp hq
                  exact hy
        · refine ⟨_, rfl, (by show 0 ≤ sizeLine; decide), fun E1 nE => ?_⟩
          have hwa := hw8.new (o := .lst []) nE
          refine ⟨.list (ys.map PyData.str), .list [], .lst (SqL.of hwa.2.2.2) (dp_strs ys), .lst (SqL.of upd_same) .nil, sh_strs fun y hy => (hn y hy).2.2, by decide, _, rfl, ?_⟩
          rw [eqv_nil]
          by_cases em : ys = []
          · subst em
            refine LK.ifF rfl (LK.ifF rfl ?_)
            exact go _ _ ⟨_, rfl, y1, hwa.mono (by omega)⟩
          refine LK.ifT (by cases ys with | nil => exact absurd rfl em | cons _ _ => rfl) ?_
          refine ⟨_, rfl, c, 3, _, rfl, by decide, by decide, hwa.2.1, by omega, fun d6 H6 d60 d61 h6 b6 n6 => ⟨rfl, _, rfl, ?_⟩⟩
          have hwb := hwa.call h6 b6
          by_cases e0 : V.int d6 = V.int 0
          · refine LK.ifT (decide_eq_true e0) ?_
            obtain ⟨y0, hy0, at0⟩ := at_last em
            obtain ⟨q1, q2, q3⟩ := hn y0 hy0
            have sz : sizeLine ≥ 100 := by decide
            have c7 := cut_seven y0
            have c8 := cut_last q2
            have a1 := yn_one d4.toNat d4n c7 (lt_cut q3 none (some 7))
            have a2 := yn_one d4.toNat d4n c8 (lt_cut q3 none (some (-1)))
            refine ⟨_, rfl, 1, rfl, D, _, -1, _, rfl, rfl, SqL.of hwb.2.2.2, at0, 7, rfl, y0, rfl, by omega, ?_⟩
            refine ⟨_, rfl, _, rfl, abc, d4, _, rfl, rfl, abc_len, abc_at d40 d41, _, _, rfl, rfl, ?_, ?_⟩
            · show (cutS y0 none (some 7)).length + 1 ≤ sizeLine
              omega
            refine ⟨_, rfl, 1, rfl, D, _, -1, _, rfl, rfl, SqL.of hwb.2.2.2, at0, 1, rfl, _, rfl, y0, rfl, by omega, ?_⟩
            refine ⟨_, rfl, _, rfl, abc, d4, _, rfl, rfl, abc_len, abc_at d40 d41, _, _, rfl, rfl, ?_, ?_⟩
            · show (cutS y0 none (some (-1))).length + 1 ≤ sizeLine
              omega
            refine ⟨(by show 2 ≤ sizeLine; decide), fun L2 nL2 => ?_⟩
            have hwc := hwb.new (o := .lst [.str (cutS y0 none (some 7) ++ lett d4.toNat), .str (cutS y0 none (some (-1)) ++ lett d4.toNat)]) nL2
            refine ⟨_, rfl, c, 2, _, rfl, by decide, by decide, hwc.2.1, by omega, fun d7 H7 d70 d71 h7 b7 n7 => ?_⟩
            have hwd := hwc.call h7 b7
            have hL2 := b7 _ _ (hwb.2.1.fresh nL2).symm (upd_same (H := H6) (o := .lst [.str (cutS y0 none (some 7) ++ lett d4.toNat), .str (cutS y0 none (some (-1)) ++ lett d4.toNat)]))
            obtain rfl | rfl : d7 = 0 ∨ d7 = 1 := by omega
            · exact ⟨L2, _, 0, _, rfl, rfl, SqL.of hL2, rfl, go _ _ ⟨_, rfl, a1, hwd.mono (by omega)⟩⟩
            · exact ⟨L2, _, 1, _, rfl, rfl, SqL.of hL2, rfl, go _ _ ⟨_, rfl, a2, hwd.mono (by omega)⟩⟩
          · refine LK.ifF (decide_eq_false e0) ?_
            exact go _ _ ⟨_, rfl, y1, hwb.mono (by omega)⟩
    · obtain ⟨ys, o4, o5, o6, o7, o8, rfl, hl, hn, hw⟩ := hI
      exact ⟨_, rfl, k D H1 ys nD (hw.2.1.mono (by omega)) hw.2.2.1 hw.2.2.2 hl hn⟩
end
end K1
namespace K1
open PySem PySem.Spec PyProof.Rows L2 LK
abbrev sAny : Stmt := top 24
/-- what is no list stays -/
def Tk (H H' : Hp) : Prop := ∀ b o, (∀ xs, o ≠ .lst xs) → H b = some o → H' b = some o
theorem Tk.bt {c : Addr} {H H' : Hp} {B : Nat} (h : CR H c B) (b : Bt c H H') : Tk H H' := fun x o no e => b x o (h.ne e no) e
theorem Tk.same {H H' : Hp} (s : Same H H') : Tk H H' := fun x o _ e => s x o e
theorem Tk.own {H : Hp} {p : Addr} {xs : List V} {o : HO} (h : H p = some (.lst xs)) : Tk H (upd H p o) := fun x u no e => by
  rw [upd_ne (ne_of e h (no _))]
  exact e
theorem Tk.trans {H H1 H2 : Hp} (a : Tk H H1) (b : Tk H1 H2) : Tk H H2 := fun x o n e => b x o n (a x o n e)
theorem sqT_tk {K : PySem.W.Frag} {H H' : Hp} {a : Addr} {xs : List V} (e : Tk H H') (h : SqT K H a xs) : SqT K H' a xs := by
  rcases h with (h | ⟨o, h⟩) | h
  · exact .inl (.inl (e _ _ (fun _ q => by cases q) h))
  · exact .inl (.inr ⟨o, e _ _ (fun _ q => by cases q) h⟩)
  · exact .inr h
theorem dp_tk_ints {K : PySem.W.Frag} {H H' : Hp} : ∀ {xs : List V} {ns : List Int}, DpAll K H xs (ns.map PyData.int) → DpAll K H' xs (ns.map PyData.int)
  | _, [], .nil => .nil
  | _, n :: r, .cons (.int _) t => .cons (.int _) (dp_tk_ints t)
theorem dp_ints_of {K : PySem.W.Frag} {H : Hp} : ∀ ns : List Int, DpAll K H (ns.map V.int) (ns.map PyData.int)
  | [] => .nil
  | n :: r => .cons (.int n) (dp_ints_of r)
theorem lp_tk {K : PySem.W.Frag} {H H' : Hp} (e : Tk H H') {x : V} {l : Lp} (h : Dp K H x (lpD l)) : Dp K H' x (lpD l) := by
  cases h with
  | tup s a =>
    cases a with
    | cons d1 a =>
      cases d1
      cases a with
      | cons d2 dn =>
        cases dn
        cases d2 with
        | tup s2 a2 => exact .tup (sqT_tk e s) (.cons (.str _) (.cons (.tup (sqT_tk e s2) (dp_tk_ints a2)) .nil))
theorem lps_tk {K : PySem.W.Frag} {H H' : Hp} (e : Tk H H') : ∀ {xs : List V} {ls : List Lp}, DpAll K H xs (ls.map lpD) → DpAll K H' xs (ls.map lpD)
  | _, [], .nil => .nil
  | _, _ :: _, .cons a r => .cons (lp_tk e a) (lps_tk e r)
/-- the loops under way: the list at L -/
def Wa (K : PySem.W.Frag) (H Hn : Hp) (c L : Addr) (B : Nat) (ls : List Lp) (xs : List V) : Prop := c ≠ L ∧ CR Hn c B ∧ Bt c H Hn ∧ Hn L = some (.lst xs) ∧ DpAll K Hn xs (ls.map lpD)
theorem Wa.call {K : PySem.W.Frag} {H Hn H' : Hp} {c L : Addr} {B : Nat} {ls : List Lp} {xs : List V} (h : Wa K H Hn c L B ls xs) (h1 : CR H' c (B + 1)) (bt : Bt c Hn H') : Wa K H H' c L (B + 1) ls xs :=
  ⟨h.1, h1, h.2.2.1.trans bt, bt _ _ h.1.symm h.2.2.2.1, lps_tk (Tk.bt h.2.1 bt) h.2.2.2.2⟩
theorem Wa.new {K : PySem.W.Frag} {H Hn : Hp} {c L p : Addr} {B : Nat} {ls : List Lp} {xs : List V} {o : HO} (h : Wa K H Hn c L B ls xs) (np : Hn p = none) : Wa K H (upd Hn p o) c L B ls xs :=
  ⟨h.1, h.2.1.same (same_new np), h.2.2.1.trans (Bt.of (same_new np)), same_new np _ _ h.2.2.2.1, lps_tk (Tk.same (same_new np)) h.2.2.2.2⟩
theorem Wa.same {K : PySem.W.Frag} {H Hn H' : Hp} {c L : Addr} {B : Nat} {ls : List Lp} {xs : List V} (h : Wa K H Hn c L B ls xs) (s : Same Hn H') : Wa K H H' c L B ls xs :=
  ⟨h.1, h.2.1.same s, h.2.2.1.trans (Bt.of s), s _ _ h.2.2.2.1, lps_tk (Tk.same s) h.2.2.2.2⟩
theorem Wa.gone {K : PySem.W.Frag} {H Hn : Hp} {c L p : Addr} {B : Nat} {ls : List Lp} {xs : List V} (h : Wa K H Hn c L B ls xs) (np : Hn p = none) : H p = none ∧ p ≠ c ∧ p ≠ L := by
  have pc : p ≠ c := (h.2.1.fresh np).symm
  refine ⟨?_, pc, (ne_of_none h.2.2.2.1 np).symm⟩
  cases e : H p with
  | none => rfl
  | some o => rw [h.2.2.1 p o pc e] at np; cases np
theorem Wa.own {K : PySem.W.Frag} {H Hn : Hp} {c L p : Addr} {B : Nat} {ls : List Lp} {xs zs : List V} {o : HO} (h : Wa K H Hn c L B ls xs) (g : H p = none ∧ p ≠ c ∧ p ≠ L) (e : Hn p = some (.lst zs)) : Wa K H (upd Hn p o) c L B ls xs :=
  ⟨h.1, h.2.1.upd g.2.1, fun b u n e' => by rw [upd_ne (ne_of_none e' g.1)]; exact h.2.2.1 b u n e', by rw [upd_ne g.2.2.symm]; exact h.2.2.2.1, lps_tk (Tk.own e) h.2.2.2.2⟩
theorem Wa.mono {K : PySem.W.Frag} {H Hn : Hp} {c L : Addr} {B B' : Nat} {ls : List Lp} {xs : List V} (h : Wa K H Hn c L B ls xs) (l : B ≤ B') : Wa K H Hn c L B' ls xs := ⟨h.1, h.2.1.mono l, h.2.2⟩
theorem Wa.app {K : PySem.W.Frag} {H Hn : Hp} {c L : Addr} {B : Nat} {ls : List Lp} {xs : List V} {x : V} {l : Lp} (h : Wa K H Hn c L B ls xs) (nL : H L = none) (d : Dp K Hn x (lpD l)) : Wa K H (upd Hn L (.lst (xs ++ [x]))) c L B (ls ++ [l]) (xs ++ [x]) :=
  ⟨h.1, h.2.1.upd h.1.symm, fun b u n e => by rw [upd_ne (ne_of_none e nL)]; exact h.2.2.1 b u n e, upd_same, by
    rw [List.map_append]
    exact dps_app (lps_tk (Tk.own h.2.2.2.1) h.2.2.2.2) (.cons (lp_tk (Tk.own h.2.2.2.1) d) .nil)⟩
/-- loops as they may stand: threads of ys, parents ahead, ascending -/
def OkLs (ys : List Str) (ls : List Lp) : Prop := ∀ (k : Nat) (l : Lp), ls[k]? = some l → l.1 ∈ ys ∧ l.2.Pairwise (· < ·) ∧ l.2.length ≤ 5 ∧ ∀ p ∈ l.2, 0 ≤ p ∧ p < (k : Int)
def OkFs (n : Nat) (fs : List Int) : Prop := fs.Nodup ∧ ∀ x ∈ fs, 0 ≤ x ∧ x < (n : Int)
theorem okls_app {ys : List Str} {ls : List Lp} {l : Lp} (h : OkLs ys ls) (h1 : l.1 ∈ ys) (h2 : l.2.Pairwise (· < ·)) (h3 : l.2.length ≤ 5) (h4 : ∀ p ∈ l.2, 0 ≤ p ∧ p < (ls.length : Int)) : OkLs ys (ls ++ [l]) := by
  intro k m e
  rw [List.getElem?_append] at e
  split at e
  · exact h k m e
  · rename_i hk
    have : k - ls.length = 0 := by
      cases hq : k - ls.length with
      | zero => rfl
      | succ q => rw [hq] at e; simp at e
    rw [this] at e
    obtain rfl : l = m := by simpa using e
    have hk2 : k = ls.length := by omega
    subst hk2
    exact ⟨h1, h2, h3, h4⟩
theorem sh_ints (ns : List Int) : SeqAt.shaped (.list (ns.map PyData.int)) = true := by
  have h : ∀ ns : List Int, PyData.canLayAll0 (ns.map PyData.int) = true ∧ PyData.depthAll (ns.map PyData.int) = 0 := by
    intro ns
    induction ns with
    | nil => exact ⟨rfl, rfl⟩
    | cons n r ih =>
      constructor
      · rw [List.map_cons, PyData.canLayAll0, ih.1]
        rfl
      · simp only [List.map_cons, PyData.depthAll, PyData.depth, ih.2]
        rfl
  obtain ⟨a, b⟩ := h ns
  refine shaped_of (by simpa only [PyData.canLay0] using a) ?_
  simp only [PyData.depth, b]
  decide
theorem eqv_nili (ns : List Int) : PyData.eqv (.list (ns.map PyData.int)) (.list []) = ns.isEmpty := by
  cases ns with
  | nil => rfl
  | cons y r => rfl
theorem pick8 {k : Int} (k0 : 0 ≤ k) (k1 : k < 8) : ∃ z : Int, 0 ≤ z ∧ z ≤ 5 ∧ atI [V.int 0, .int 1, .int 1, .int 1, .int 2, .int 2, .int 3, .int 5] k = some (.int z) := by
  obtain rfl | rfl | rfl | rfl | rfl | rfl | rfl | rfl : k = 0 ∨ k = 1 ∨ k = 2 ∨ k = 3 ∨ k = 4 ∨ k = 5 ∨ k = 6 ∨ k = 7 := by omega
  all_goals exact ⟨_, by decide, by decide, rfl⟩
section
variable {P : Program} {w : World} {K : PySem.W.Frag} {mg : Str → Option Value} {base : Heap}
theorem eqDq {X : Cx} {K : PySem.W.Frag} (hu : X.A.units + 64 < cLine) (e : X.K = K := by rfl) : OpR X (compareOp .Eq) (rEqD K) := e ▸ op_eqD hu
theorem scAny : FnScope ["creel", "most", "yarns", "loops_here", "k", "many", "near", "picked", "turn", "spot", "childless", "fast_here", "inner"] ["creel", "most", "yarns"] (defScope sAny) := ⟨rfl, rfl, rfl, by decide +kernel, rfl, by decide +kernel, by decide +kernel⟩
def spAny (K : PySem.W.Frag) : Sp := fun vs H Q _ => ∃ (c ya : Addr) (most B : Nat) (ys : List Str), vs = [.ref c, .int most, .ref ya] ∧ most ≤ 1000 ∧ CR H c B ∧ B + 20000 < 10 ^ 12 ∧ Ys H ya ys ∧ ys ≠ [] ∧ ys.length ≤ 1000 ∧
  ∀ (t L G : Addr) (H' : Hp) (ls : List Lp) (xs : List V) (fs : List Int), H L = none → H G = none → L ≠ G → H' t = some (.tup [.ref L, .ref G]) → H' L = some (.lst xs) → DpAll K H' xs (ls.map lpD) → H' G = some (.lst (fs.map V.int)) → CR H' c (B + 20000) → Bt c H H' → ls.length ≤ most → OkLs ys ls → OkFs ls.length fs → Q (.ref t) H'
theorem ok_any {f fp fk : Addr} {fd fdp fdk : FuncData} (F : Fun K "_law_any_cloth" "_law_any_cloth" sAny f fd) (Fp : Fun K "_law_ply" "_law_ply" sPly fp fdp) (Fk : Fun K "_law_kids" "_law_kids" sKids fk fdk) (B : Bl mg) (gp : mg "_law_ply" = some (.ref fp)) (gk : mg "_law_kids" = some (.ref fk)) (bp : Binds K fdp ["creel", "span"] []) (bk : Binds K fdk ["loops_here", "spot"] []) (Gp : FnOk P w K mg base CX0 1 fp fdp ["creel", "span"] spPly) (Gk : FnOk P w K mg base CX0 1 fk fdk ["loops_here", "spot"] (spKids K)) :
    FnOk P w K mg base CX0 2 f fd ["creel", "most", "yarns"] (spAny K) := by
  refine F.ok scAny (fun vs H Q E h => ?_) (fun cdv A outer s H vs Q E hr h => ?_)
  · obtain ⟨c, ya, most, bb, ys, rfl, _⟩ := h
    rfl
  · obtain ⟨c, ya, most, bb, ys, rfl, hm, hc, hB, hy, hne, hyl, k⟩ := h
    refine ⟨_, pss_cons (ps_set (i := 3) scAny.nd rfl (Or.inr rfl) (pe_lst pa_nil))
      (pss_cons (ps_for PassesOwn.never rfl (pi_range1 (by rfl) (B "range" (by decide)) (pa_cons (pe_call (E := E0) Gp (hr.mono (by decide)) rfl gp Fp.kp bp .nil pass0 (pa_cons (pv 0) (pa_cons (pe_op op_add (pv 1) pe_int) pa_nil))) pa_nil)) (pg_name (i := 4) scAny.nd rfl (Or.inl rfl)) (pss_cons (ps_set (i := 5) scAny.nd rfl (Or.inl rfl) (pe_callB (call_min2 rfl) (by rfl) (B "min" (by decide)) (by decide +kernel) (pa_cons (pv 4) (pa_cons (pe_ix ix_list (pe_lst (pa_cons pe_int (pa_cons pe_int (pa_cons pe_int (pa_cons pe_int (pa_cons pe_int (pa_cons pe_int (pa_cons pe_int (pa_cons pe_int pa_nil))))))))) (pe_call (E := E0) Gp (hr.mono (by decide)) rfl gp Fp.kp bp .nil pass0 (pa_cons (pv 0) (pa_cons pe_int pa_nil))) (fun _ _ => rfl)) pa_nil))))
      (pss_cons (ps_par (i := 6) (j := 7) rfl scAny.nd rfl rfl (by decide) rfl rfl (pa_cons (pe_cmpR op_gt (pe_call (E := E0) Gp (hr.mono (by decide)) rfl gp Fp.kp bp .nil pass0 (pa_cons (pv 0) (pa_cons pe_int pa_nil))) pe_int (nomark _)) (pa_cons (pe_lst pa_nil) pa_nil)) (by rfl))
      (pss_cons (ps_for PassesOwn.never rfl (pi_range1 (by rfl) (B "range" (by decide)) (pa_cons (pv 5) pa_nil)) (pg_name (i := 8) scAny.nd rfl (Or.inl rfl)) (pss_cons (ps_set (i := 9) scAny.nd rfl (Or.inl rfl) (pe_ifExp (pt_val (pv 6)) (pe_op op_sub (pe_op op_sub (pv 4) pe_int) (pe_call (E := E0) Gp (hr.mono (by decide)) rfl gp Fp.kp bp .nil pass0 (pa_cons (pv 0) (pa_cons (pe_callB (call_min2 rfl) (by rfl) (B "min" (by decide)) (by decide +kernel) (pa_cons (pv 4) (pa_cons pe_int pa_nil))) pa_nil)))) (pe_call (E := E0) Gp (hr.mono (by decide)) rfl gp Fp.kp bp .nil pass0 (pa_cons (pv 0) (pa_cons (pv 4) pa_nil)))))
      (pss_one (ps_if (pt_cmpR op_notIn_seq (pv 9) (pv 7) (by rfl)) (pss_one (ps_expr (pe_bm PySem.F.plainAttrs_list PySem.F.slot_list_append PySem.F.type_list_append mt_append (pv 7) (pa_cons (pv 9) pa_nil)))) pss_nil))))
      (pss_one (ps_expr (pe_bm PySem.F.plainAttrs_list PySem.F.slot_list_append PySem.F.type_list_append mt_append (pv 3) (pa_cons (pe_tup (pa_cons (pe_ix ix_list (pv 2) (pe_call (E := E0) Gp (hr.mono (by decide)) rfl gp Fp.kp bp .nil pass0 (pa_cons (pv 0) (pa_cons (pe_callB call_len_seq (by rfl) (B "len" (by decide)) (by decide +kernel) (pa_cons (pv 2) pa_nil)) pa_nil))) (fun _ _ => rfl)) (pa_cons (pe_callTy call_tuple_of (by rfl) (B "tuple" (by decide)) (by decide +kernel) (pa_cons (pe_callB cr_sorted (by rfl) (B "sorted" (by decide)) (by decide +kernel) (pa_cons (pv 7) pa_nil)) pa_nil)) pa_nil))) pa_nil))))))))
      (pss_cons (ps_set (i := 10) scAny.nd rfl (Or.inr rfl) (pe_lc (own := [("k", 4)]) (g := gName 4) rfl scAny.nd (pi_range1 (by rfl) (B "range" (by decide)) (pa_cons (pe_callB call_len_seq (by rfl) (B "len" (by decide)) (by decide +kernel) (pa_cons (pv 3) pa_nil)) pa_nil)) (blkOk_by (N := ["creel", "most", "yarns", "loops_here", "k", "many", "near", "picked", "turn", "spot", "childless", "fast_here", "inner"]) (sc := defScope sAny) (by decide +kernel)) (fun _ _ _ _ _ => pg_name (i := 4) scAny.nd rfl (Or.inl rfl)) (fun _ _ _ _ _ => pts_one (pt_cmpR (eqDq (K := K) hr.units) (pe_call (E := E0) Gk (hr.mono (by decide)) rfl gk Fk.kp bk .nil pass0 (pa_cons (pv 3) (pa_cons (pv 4) pa_nil))) (pe_lst pa_nil) (nomark _))) (fun _ _ _ _ _ => pv 4)))
      (pss_cons (ps_setLc (i := 11) (own := [("k", 4)]) (g := gName 4) rfl scAny.nd rfl rfl (sw_true rfl rfl rfl (by decide +kernel)) (pi_list (pv 10)) (blkOk_by (N := ["creel", "most", "yarns", "loops_here", "k", "many", "near", "picked", "turn", "spot", "childless", "fast_here", "inner"]) (sc := defScope sAny) (by decide +kernel)) (fun _ _ _ _ _ => pg_name (i := 4) scAny.nd rfl (Or.inl rfl)) (fun _ _ _ _ _ => pts_one (pt_cmpR op_gt (pe_call (E := E0) Gp (hr.mono (by decide)) rfl gp Fp.kp bp .nil pass0 (pa_cons (pv 0) (pa_cons pe_int pa_nil))) pe_int (nomark _))) (fun _ _ _ _ _ => pv 4))
      (pss_cons (ps_setLc (i := 12) (own := [("k", 4)]) (g := gName 4) rfl scAny.nd rfl rfl (sw_true rfl rfl rfl (by decide +kernel)) (pi_range1 (by rfl) (B "range" (by decide)) (pa_cons (pe_callB call_len_seq (by rfl) (B "len" (by decide)) (by decide +kernel) (pa_cons (pv 3) pa_nil)) pa_nil)) (blkOk_by (N := ["creel", "most", "yarns", "loops_here", "k", "many", "near", "picked", "turn", "spot", "childless", "fast_here", "inner"]) (sc := defScope sAny) (by decide +kernel)) (fun _ _ _ _ _ => pg_name (i := 4) scAny.nd rfl (Or.inl rfl)) (fun _ _ _ _ _ => pts_one (pt_cmpR (ninq (K := K)) (pv 4) (pv 10) (by rfl))) (fun _ _ _ _ _ => pv 4))
      (pss_one (ps_ret (pe_tup (pa_cons (pv 3) (pa_cons (pe_op op_cat (pv 11) (pe_lc (own := [("k", 4)]) (g := gName 4) rfl scAny.nd (pi_list (pv 12)) (blkOk_by (N := ["creel", "most", "yarns", "loops_here", "k", "many", "near", "picked", "turn", "spot", "childless", "fast_here", "inner"]) (sc := defScope sAny) (by decide +kernel)) (fun _ _ _ _ _ => pg_name (i := 4) scAny.nd rfl (Or.inl rfl)) (fun _ _ _ _ _ => pts_one (pt_cmpR op_eq (pe_call (E := E0) Gp (hr.mono (by decide)) rfl gp Fp.kp bp .nil pass0 (pa_cons (pv 0) (pa_cons pe_int pa_nil))) pe_int (nomark _))) (fun _ _ _ _ _ => pv 4))) pa_nil))))))))), ?_⟩
    have cy : ya ≠ c := by
      intro e
      subst e
      obtain ⟨_, _, _, e, _⟩ := hc
      rw [Ys, e] at hy
      cases ys with
      | nil => exact hne rfl
      | cons a r => simp at hy
    refine ⟨(by show 0 ≤ sizeLine; decide), fun L nL => ?_⟩
    have cL : c ≠ L := hc.fresh nL
    have w0 : Wa K H (upd H L (.lst [])) c L bb [] [] := ⟨cL, hc.upd cL.symm, Bt.of (same_new nL), upd_same, .nil⟩
    refine ⟨_, rfl, _, rfl, _, _, rfl, rfl, c, _, bb, rfl, by omega, by omega, w0.2.1, by omega, fun d0 H1 d00 d01 h1 b1 n1 => ?_⟩
    have w1 := w0.call h1 b1
    refine ⟨d0, rfl, by omega, by omega, ?_⟩
    refine for_range (lo := 0) (n := d0.toNat) (fun i σ H' => ∃ (ls : List Lp) (xs : List V) (o4 o5 o6 o7 o8 o9 : Option V), σ = [some (.ref c), some (.int most), some (.ref ya), some (.ref L), o4, o5, o6, o7, o8, o9, none, none, none] ∧ ls.length = i ∧ OkLs ys ls ∧ Wa K H H' c L (bb + 1 + 10 * i) ls xs)
      ⟨[], [], _, _, _, _, _, _, rfl, rfl, fun k l e => by simp at e, w1⟩ (fun i σ H2 hi hI => ?_) (fun σ H2 hI => ?_)
    · obtain ⟨ls, xs, o4, o5, o6, o7, o8, o9, rfl, hl, ok, hw⟩ := hI
      have yaH : ∀ Hn B ls xs, Wa K H Hn c L B ls xs → Ys Hn ya ys := fun Hn B ls xs h => h.2.2.1 _ _ cy hy
      refine ⟨_, rfl, (by show 8 ≤ sizeLine; decide), fun T8 nT8 => ?_⟩
      have hw1 := hw.new (o := .lst [.int 0, .int 1, .int 1, .int 1, .int 2, .int 2, .int 3, .int 5]) nT8
      refine ⟨_, rfl, c, 8, _, rfl, by decide, by decide, hw1.2.1, by omega, fun d1 H3 d10 d11 h3 b3 n3 => ?_⟩
      have hw2 := hw1.call h3 b3
      have hT8 : H3 T8 = some (.lst [.int 0, .int 1, .int 1, .int 1, .int 2, .int 2, .int 3, .int 5]) := b3 _ _ (hw.2.1.fresh nT8).symm upd_same
      obtain ⟨m0, m00, m01, hm0⟩ := pick8 d10 d11
      refine ⟨T8, _, _, _, rfl, rfl, SqL.of hT8, hm0, _, _, rfl, ?_⟩
      obtain ⟨z, hz, z0, z1, z2⟩ : ∃ z : Int, (if m0 < 0 + (i : Int) then m0 else 0 + (i : Int)) = z ∧ 0 ≤ z ∧ z ≤ 5 ∧ z ≤ i := by
        refine ⟨_, rfl, ?_, ?_, ?_⟩ <;> (split <;> omega)
      rw [hz]
      refine ⟨_, rfl, c, 3, _, rfl, by decide, by decide, hw2.2.1, by omega, fun d2 H4 d20 d21 h4 b4 n4 => ?_⟩
      have hw3 := hw2.call h4 b4
      refine ⟨_, _, rfl, rfl, (by show 0 ≤ sizeLine; decide), fun Pk nPk => ⟨_, _, rfl, ?_⟩⟩
      have hw4 := hw3.new (o := .lst []) nPk
      have gP := hw3.gone nPk
      refine ⟨_, rfl, z, rfl, by omega, by omega, ?_⟩
      refine for_range (lo := 0) (n := z.toNat) (fun j σ H' => ∃ (ps : List Int) (o8 o9 : Option V), σ = [some (.ref c), some (.int most), some (.ref ya), some (.ref L), some (.int (0 + (i : Int))), some (.int z), some (.bl (decide (0 < d2))), some (.ref Pk), o8, o9, none, none, none] ∧ H' Pk = some (.lst (ps.map V.int)) ∧ ps.length ≤ j ∧ ps.Nodup ∧ (∀ p ∈ ps, 0 ≤ p ∧ p < (i : Int)) ∧ Wa K H H' c L (bb + 1 + 10 * i + 2 + j) ls xs)
        ⟨[], _, _, rfl, upd_same, Nat.zero_le _, List.nodup_nil, fun p h => absurd h List.not_mem_nil, hw4⟩ (fun j σ H5 hj hJ => ?_) (fun σ H5 hJ => ?_)
      · obtain ⟨ps, o8, o9, rfl, hP, pl, pn, pp, hw5⟩ := hJ
        have i0 : (0 : Int) < i := by omega
        have ap : ∀ (spot : Int) (H6 : Hp), 0 ≤ spot → spot < (i : Int) → H6 Pk = some (.lst (ps.map V.int)) → Wa K H H6 c L (bb + 1 + 10 * i + 2 + (j + 1)) ls xs → spot ∉ ps → (H6 Pk = some (.lst (ps.map V.int)) ∧ (ps.map V.int).length < sizeLine) ∧ ∃ (ps' : List Int), upd H6 Pk (.lst (ps.map V.int ++ [V.int spot])) Pk = some (.lst (ps'.map V.int)) ∧ ps'.length ≤ j + 1 ∧ ps'.Nodup ∧ (∀ p ∈ ps', 0 ≤ p ∧ p < (i : Int)) ∧ Wa K H (upd H6 Pk (.lst (ps.map V.int ++ [V.int spot]))) c L (bb + 1 + 10 * i + 2 + (j + 1)) ls xs := by
          intro spot H6 s0 s1 e6 w6 nin
          refine ⟨⟨e6, ?_⟩, ps ++ [spot], ?_, ?_, ?_, ?_, w6.own gP e6⟩
          · rw [List.length_map]
            exact Nat.lt_of_lt_of_le (by omega : ps.length < 100) (by decide)
          · rw [upd_same, List.map_append]
            rfl
          · rw [List.length_append]
            simp only [List.length_singleton]
            omega
          · exact List.nodup_append.mpr ⟨pn, by simp, fun a ha b hb e => by obtain rfl := List.mem_singleton.mp hb; exact nin (e ▸ ha)⟩
          · intro p hp
            rcases List.mem_append.mp hp with hp | hp
            · exact pp p hp
            · obtain rfl := List.mem_singleton.mp hp
              exact ⟨s0, s1⟩
        refine ⟨_, rfl, decide (0 < d2), rfl, ?_⟩
        by_cases near : 0 < d2
        · refine LK.ifT (decide_eq_true near) ?_
          refine ⟨_, rfl, _, _, rfl, rfl, _, rfl, _, rfl, _, _, rfl, ?_⟩
          obtain ⟨sp, hsp, sp0, sp1, sp2⟩ : ∃ sp : Int, (if 6 < 0 + (i : Int) then 6 else 0 + (i : Int)) = sp ∧ 0 < sp ∧ sp ≤ 6 ∧ sp ≤ i := by
            refine ⟨_, rfl, ?_, ?_, ?_⟩ <;> (split <;> omega)
          rw [hsp]
          refine ⟨c, sp, _, rfl, sp0, by omega, hw5.2.1, by omega, fun d3 H6 d30 d31 h6 b6 n6 => ?_⟩
          have hw6 := hw5.call h6 b6
          have e6 := b6 _ _ gP.2.1 hP
          refine ⟨_, _, rfl, rfl, _, rfl, _, rfl, Pk, _, rfl, .inl (SqL.of e6), rfl, flat_ints ps, _, rfl, ?_⟩
          show if (!inV (.int (0 + (i : Int) - 1 - d3)) (ps.map V.int)) = true then _ else _
          rw [inV_int]
          by_cases hin : (0 + (i : Int) - 1 - d3) ∈ ps
          · rw [decide_eq_true hin]
            exact LK.ifF rfl ⟨ps, _, _, rfl, e6, by omega, pn, pp, hw6⟩
          · rw [decide_eq_false hin]
            obtain ⟨⟨q1, q2⟩, ps', q3, q4, q5, q6, q7⟩ := ap (0 + (i : Int) - 1 - d3) H6 (by omega) (by omega) e6 hw6 hin
            exact LK.ifT rfl ⟨_, rfl, .inl ⟨rfl, _, SqL.of e6⟩, _, rfl, Pk, _, _, rfl, rfl, q1, q2, ps', _, _, rfl, q3, q4, q5, q6, q7⟩
        · refine LK.ifF (decide_eq_false near) ?_
          refine ⟨_, rfl, _, rfl, c, _, _, rfl, by omega, by omega, hw5.2.1, by omega, fun d3 H6 d30 d31 h6 b6 n6 => ?_⟩
          have hw6 := hw5.call h6 b6
          have e6 := b6 _ _ gP.2.1 hP
          refine ⟨_, rfl, _, rfl, Pk, _, rfl, .inl (SqL.of e6), rfl, flat_ints ps, _, rfl, ?_⟩
          show if (!inV (.int (d3)) (ps.map V.int)) = true then _ else _
          rw [inV_int]
          by_cases hin : (d3) ∈ ps
          · rw [decide_eq_true hin]
            exact LK.ifF rfl ⟨ps, _, _, rfl, e6, by omega, pn, pp, hw6⟩
          · rw [decide_eq_false hin]
            obtain ⟨⟨q1, q2⟩, ps', q3, q4, q5, q6, q7⟩ := ap (d3) H6 (by omega) (by omega) e6 hw6 hin
            exact LK.ifT rfl ⟨_, rfl, .inl ⟨rfl, _, SqL.of e6⟩, _, rfl, Pk, _, _, rfl, rfl, q1, q2, ps', _, _, rfl, q3, q4, q5, q6, q7⟩
      · obtain ⟨ps, o8, o9, rfl, hP, pl, pn, pp, hw5⟩ := hJ
        have ya5 := yaH _ _ _ _ hw5
        refine ⟨_, rfl, .inl ⟨rfl, _, SqL.of hw5.2.2.2.1⟩, ?_⟩
        have y0 : 0 < ys.length := List.length_pos_iff.mpr hne
        refine ⟨_, rfl, _, rfl, _, rfl, ya, _, rfl, .inl (SqL.of ya5), ?_⟩
        rw [List.length_map]
        refine ⟨c, _, _, rfl, by omega, by omega, hw5.2.1, by omega, fun d3 H6 d30 d31 h6 b6 n6 => ?_⟩
        have hw6 := hw5.call h6 b6
        have e6 := b6 _ _ gP.2.1 hP
        obtain ⟨y, hyy⟩ : ∃ y, ys[d3.toNat]? = some y := ⟨ys[d3.toNat]'(by omega), List.getElem?_eq_getElem (by omega)⟩
        have at3 : atI (ys.map V.str) d3 = some (.str y) := by
          have := atI_nat (xs := ys.map V.str) (j := d3.toNat) (v := .str y) (by rw [List.getElem?_map, hyy]; rfl)
          rwa [show ((d3.toNat : Nat) : Int) = d3 by omega] at this
        refine ⟨ya, _, _, _, rfl, rfl, SqL.of (yaH _ _ _ _ hw6), at3, ?_⟩
        refine ⟨_, rfl, Pk, ps, rfl, SqL.of e6, by omega, fun ps' Sp perm pw nSp => ?_⟩
        have hw7 := hw6.new (o := .lst (ps'.map V.int)) nSp
        refine ⟨Sp, _, rfl, .inl ⟨SqL.of upd_same, fun Tp nTp => ?_⟩⟩
        have hw8 := hw7.new (o := .tup (ps'.map V.int)) nTp
        refine ⟨(by show 2 ≤ sizeLine; decide), fun Tl nTl => ?_⟩
        have hw9 := hw8.new (o := .tup [.str y, .ref Tp]) nTl
        have eTp := same_new (o := .tup [.str y, .ref Tp]) nTl _ _ (upd_same (H := upd H6 Sp (.lst (ps'.map V.int))) (a := Tp) (o := .tup (ps'.map V.int)))
        have dl : Dp K _ (.ref Tl) (lpD (y, ps')) := .tup (.inl (.inl (upd_same (o := .tup [.str y, .ref Tp])))) (.cons (.str y) (.cons (.tup (.inl (.inl eTp)) (dp_ints_of ps')) .nil))
        have xl : xs.length = i := by
          rw [dps_len hw5.2.2.2.2, List.length_map, hl]
        refine ⟨L, xs, .ref Tl, rfl, rfl, hw9.2.2.2.1, ?_, ls ++ [(y, ps')], xs ++ [.ref Tl], _, _, _, _, _, _, rfl, ?_, ?_, (hw9.app nL dl).mono (by omega)⟩
        · rw [xl]
          exact Nat.lt_of_lt_of_le (by omega : i < 2000) (by decide)
        · rw [List.length_append, hl]
          rfl
        · refine okls_app ok (List.mem_of_getElem? hyy) ?_ ?_ fun p hp => ?_
          · have nd : ps'.Nodup := perm.symm.nodup pn
            exact (List.Pairwise.and pw nd).imp fun h => by omega
          · show ps'.length ≤ 5
            rw [perm.length_eq]
            omega
          · rw [hl]
            exact pp p (perm.mem_iff.mp hp)
    · obtain ⟨ls, xs, o4, o5, o6, o7, o8, o9, rfl, hl, ok, hw⟩ := hI
      have xl : xs.length = ls.length := by rw [dps_len hw.2.2.2.2, List.length_map]
      have ln : ls.length ≤ 1000 := by omega
      refine ⟨_, rfl, L, xs, rfl, .inl (SqL.of hw.2.2.2.1), _, rfl, by omega, by omega, fun C1 nC1 => ?_⟩
      have gC := hw.gone nC1
      refine lc_range (lo := 0) (n := xs.length) (fun j H' => H' C1 = some (.lst ((((List.range j).filter fun k : Nat => (kidsOf ls (0 + (k : Int))).isEmpty).map fun k : Nat => V.int (k : Int)))) ∧ Wa K H H' c L (bb + 1 + 10 * d0.toNat) ls xs)
        ⟨upd_same, (hw.new nC1)⟩ (fun j H3 hj hh => ⟨rfl, ?_⟩) (fun H3 hh => ?_)
      · obtain ⟨hC, hw1⟩ := hh
        refine ⟨_, rfl, _, rfl, L, _, xs, ls, rfl, SqL.of hw1.2.2.2.1, hw1.2.2.2.2, by omega, fun H4 kp nkp s4 e4 => ?_⟩
        have hw2 := hw1.same s4
        refine ⟨(by show 0 ≤ sizeLine; decide), fun e0 ne0 => ?_⟩
        have hw3 := hw2.new (o := .lst []) ne0
        have e5 := same_new (o := .lst []) ne0 _ _ e4
        have km : ((kidsOf ls (0 + (j : Int))).map fun k : Nat => V.int (k : Int)) = ((kidsOf ls (0 + (j : Int))).map fun k : Nat => (k : Int)).map V.int := by
          rw [List.map_map]
          rfl
        rw [km] at e5
        refine ⟨.list (((kidsOf ls (0 + (j : Int))).map fun k : Nat => (k : Int)).map PyData.int), .list [], .lst (SqL.of e5) (dp_ints_of _), .lst (SqL.of upd_same) .nil, sh_ints _, by decide, _, rfl, ?_⟩
        have hC1 := same_new (o := .lst []) ne0 _ _ (s4 _ _ hC)
        rw [eqv_nili, List.isEmpty_map, filt_more]
        by_cases em : (kidsOf ls (0 + (j : Int))).isEmpty = true
        · refine LK.ifT em ⟨_, rfl, _, hC1, ?_, ?_, hw3.own gC hC1⟩
          · rw [List.length_map]
            exact Nat.lt_of_le_of_lt (List.length_filter_le _ _) (by rw [List.length_range]; exact Nat.lt_of_lt_of_le (by omega : j < 2000) (by decide))
          · rw [upd_same, if_pos em, List.map_append]
            show some (HO.lst (_ ++ [V.int (0 + (j : Int))])) = some (HO.lst (_ ++ [V.int (j : Int)]))
            rw [Int.zero_add]
        · refine LK.ifF (by simpa using em) ⟨?_, hw3⟩
          rw [hC1, if_neg em, List.append_nil]
      · obtain ⟨hC, hw1⟩ := hh
        generalize hcl : ((List.range xs.length).filter fun k : Nat => (kidsOf ls (0 + (k : Int))).isEmpty) = cl at hC
        have cln : cl.length ≤ 1000 := by
          rw [← hcl]
          refine Nat.le_trans (List.length_filter_le _ _) ?_
          rw [List.length_range]
          omega
        -- the fast ones
        refine ⟨_, rfl, C1, rfl, ⟨_, SqL.of hC⟩, fun F1 nF1 => ?_⟩
        have gF := hw1.gone nF1
        have CF : C1 ≠ F1 := ne_of_none hC nF1
        refine lc_list (K := K) (a := C1) (xs := cl.map fun k : Nat => V.int (k : Int)) (fun j H' => ∃ f1 : List Nat, H' F1 = some (.lst (f1.map fun k : Nat => V.int (k : Int))) ∧ f1.Sublist (cl.take j) ∧ H' C1 = some (.lst (cl.map fun k : Nat => V.int (k : Int))) ∧ Wa K H H' c L (bb + 1 + 10 * d0.toNat + j) ls xs)
          ⟨[], upd_same, List.nil_sublist _, by rw [upd_ne CF]; exact hC, hw1.new nF1⟩ (fun j H' hj hh => SqL.of hh.choose_spec.2.2.1) (fun j x H4 hx hh => ⟨rfl, ?_⟩) (fun H4 hh => ?_)
        · obtain ⟨f1, hF, sl, hC4, hw2⟩ := hh
          rw [List.getElem?_map] at hx
          obtain ⟨q, hq, rfl⟩ := Option.map_eq_some_iff.mp hx
          have jl : j < cl.length := (List.getElem?_eq_some_iff.mp hq).1
          have tk : cl.take (j + 1) = cl.take j ++ [q] := by
            rw [List.take_succ, hq]
            rfl
          refine ⟨_, rfl, c, 4, _, rfl, by decide, by decide, hw2.2.1, by omega, fun d H5 d0' d1' h5 b5 n5 => ⟨_, _, rfl, rfl, _, rfl, ?_⟩⟩
          have hw3 := hw2.call h5 b5
          have hF5 := b5 _ _ gF.2.1 hF
          have hC5 := b5 _ _ gC.2.1 hC4
          by_cases big : 0 < d
          · refine LK.ifT (decide_eq_true big) ⟨_, rfl, _, hF5, ?_, f1 ++ [q], ?_, ?_, ?_, hw3.own gF hF5⟩
            · rw [List.length_map]
              have := sl.length_le
              rw [List.length_take] at this
              exact Nat.lt_of_lt_of_le (by omega : f1.length < 2000) (by decide)
            · rw [upd_same, List.map_append]
              rfl
            · rw [tk]
              exact sl.append (List.Sublist.refl _)
            · rw [upd_ne CF]
              exact hC5
          · refine LK.ifF (decide_eq_false big) ⟨f1, hF5, ?_, hC5, hw3⟩
            rw [tk]
            exact sl.trans (List.sublist_append_left _ _)
        · obtain ⟨f1, hF, sl, hC4, hw2⟩ := hh
          rw [List.length_map] at hw2 sl
          rw [List.take_length] at sl
          -- the inner ones
          refine ⟨_, rfl, L, xs, rfl, .inl (SqL.of hw2.2.2.2.1), _, rfl, by omega, by omega, fun I1 nI1 => ?_⟩
          have gI := hw2.gone nI1
          have CI : C1 ≠ I1 := ne_of_none hC4 nI1
          have FI : F1 ≠ I1 := ne_of_none hF nI1
          refine lc_range (lo := 0) (n := xs.length) (fun j H' => H' I1 = some (.lst (((List.range j).filter fun k : Nat => decide (k ∉ cl)).map fun k : Nat => V.int (k : Int))) ∧ H' C1 = some (.lst (cl.map fun k : Nat => V.int (k : Int))) ∧ H' F1 = some (.lst (f1.map fun k : Nat => V.int (k : Int))) ∧ Wa K H H' c L (bb + 1 + 10 * d0.toNat + cl.length) ls xs)
            ⟨upd_same, by rw [upd_ne CI]; exact hC4, by rw [upd_ne FI]; exact hF, hw2.new nI1⟩ (fun j H5 hj hh => ⟨rfl, ?_⟩) (fun H5 hh => ?_)
          · obtain ⟨hI, hC5, hF5, hw3⟩ := hh
            have cm : (cl.map fun k : Nat => V.int (k : Int)) = (cl.map fun k : Nat => (k : Int)).map V.int := by
              rw [List.map_map]
              rfl
            have mem : (0 + (j : Int)) ∈ (cl.map fun k : Nat => (k : Int)) ↔ j ∈ cl := by
              constructor
              · intro h
                obtain ⟨q, hq, e⟩ := List.mem_map.mp h
                obtain rfl : q = j := by omega
                exact hq
              · intro h
                exact List.mem_map.mpr ⟨j, h, (Int.zero_add _).symm⟩
            refine ⟨_, rfl, _, rfl, C1, _, rfl, .inl (SqL.of hC5), rfl, by rw [cm]; exact flat_ints _, _, rfl, ?_⟩
            show if (!inV (.int (0 + (j : Int))) (cl.map fun k : Nat => V.int (k : Int))) = true then _ else _
            rw [cm, inV_int, filt_more]
            by_cases jc : j ∈ cl
            · rw [decide_eq_true (mem.mpr jc)]
              refine LK.ifF rfl ⟨?_, by rw [← cm]; exact hC5, hF5, hw3⟩
              rw [hI]
              simp [jc]
            · rw [decide_eq_false (fun h => jc (mem.mp h))]
              refine LK.ifT rfl ⟨_, rfl, _, hI, ?_, ?_, ?_, ?_, hw3.own gI hI⟩
              · rw [List.length_map]
                exact Nat.lt_of_le_of_lt (List.length_filter_le _ _) (by rw [List.length_range]; exact Nat.lt_of_lt_of_le (by omega : j < 2000) (by decide))
              · rw [upd_same, if_pos (decide_eq_true jc), List.map_append]
                show some (HO.lst (_ ++ [V.int (0 + (j : Int))])) = some (HO.lst (_ ++ [V.int (j : Int)]))
                rw [Int.zero_add]
              · rw [upd_ne CI, ← cm]
                exact hC5
              · rw [upd_ne FI]
                exact hF5
          · obtain ⟨hI, hC5, hF5, hw3⟩ := hh
            generalize hil : ((List.range xs.length).filter fun k : Nat => decide (k ∉ cl)) = il at hI
            have iln : il.length ≤ 1000 := by
              rw [← hil]
              refine Nat.le_trans (List.length_filter_le _ _) ?_
              rw [List.length_range]
              omega
            refine ⟨_, rfl, _, rfl, _, rfl, I1, rfl, ⟨_, SqL.of hI⟩, fun G1 nG1 => ?_⟩
            have gG := hw3.gone nG1
            have FG : F1 ≠ G1 := ne_of_none hF5 nG1
            have IG : I1 ≠ G1 := ne_of_none hI nG1
            refine lc_list (K := K) (a := I1) (xs := il.map fun k : Nat => V.int (k : Int)) (fun j H' => ∃ f2 : List Nat, H' G1 = some (.lst (f2.map fun k : Nat => V.int (k : Int))) ∧ f2.Sublist (il.take j) ∧ H' I1 = some (.lst (il.map fun k : Nat => V.int (k : Int))) ∧ H' F1 = some (.lst (f1.map fun k : Nat => V.int (k : Int))) ∧ Wa K H H' c L (bb + 1 + 10 * d0.toNat + cl.length + j) ls xs)
              ⟨[], upd_same, List.nil_sublist _, by rw [upd_ne IG]; exact hI, by rw [upd_ne FG]; exact hF5, hw3.new nG1⟩ (fun j H' hj hh => SqL.of hh.choose_spec.2.2.1) (fun j x H6 hx hh => ⟨rfl, ?_⟩) (fun H6 hh => ?_)
            · obtain ⟨f2, hG, sl2, hI6, hF6, hw4⟩ := hh
              rw [List.getElem?_map] at hx
              obtain ⟨q, hq, rfl⟩ := Option.map_eq_some_iff.mp hx
              have jl : j < il.length := (List.getElem?_eq_some_iff.mp hq).1
              have tk : il.take (j + 1) = il.take j ++ [q] := by
                rw [List.take_succ, hq]
                rfl
              refine ⟨_, rfl, c, 9, _, rfl, by decide, by decide, hw4.2.1, by omega, fun d H7 d0' d1' h7 b7 n7 => ⟨rfl, _, rfl, ?_⟩⟩
              have hw5 := hw4.call h7 b7
              have hG7 := b7 _ _ gG.2.1 hG
              have hI7 := b7 _ _ gI.2.1 hI6
              have hF7 := b7 _ _ gF.2.1 hF6
              by_cases big : V.int d = V.int 0
              · refine LK.ifT (decide_eq_true big) ⟨_, rfl, _, hG7, ?_, f2 ++ [q], ?_, ?_, ?_, ?_, hw5.own gG hG7⟩
                · rw [List.length_map]
                  have := sl2.length_le
                  rw [List.length_take] at this
                  exact Nat.lt_of_lt_of_le (by omega : f2.length < 2000) (by decide)
                · rw [upd_same, List.map_append]
                  rfl
                · rw [tk]
                  exact sl2.append (List.Sublist.refl _)
                · rw [upd_ne IG]
                  exact hI7
                · rw [upd_ne FG]
                  exact hF7
              · refine LK.ifF (decide_eq_false big) ⟨f2, hG7, ?_, hI7, hF7, hw5⟩
                rw [tk]
                exact sl2.trans (List.sublist_append_left _ _)
            · obtain ⟨f2, hG, sl2, hI6, hF6, hw4⟩ := hh
              rw [List.length_map] at hw4 sl2
              rw [List.take_length] at sl2
              have l1 := sl.length_le
              have l2 := sl2.length_le
              refine ⟨F1, G1, _, _, rfl, rfl, hF6, hG, ?_, fun R nR => ⟨(by show 2 ≤ sizeLine; decide), fun Tt nTt => ?_⟩⟩
              · rw [List.length_map, List.length_map]
                exact Nat.le_of_lt (Nat.lt_of_lt_of_le (by omega : f1.length + f2.length < 3000) (by decide))
              have gR := hw4.gone nR
              have hw5 := hw4.new (o := .lst ((f1.map fun k : Nat => V.int (k : Int)) ++ f2.map fun k : Nat => V.int (k : Int))) nR
              have hw6 := hw5.new (o := .tup [.ref L, .ref R]) nTt
              have hR : upd (upd H6 R (.lst ((f1.map fun k : Nat => V.int (k : Int)) ++ f2.map fun k : Nat => V.int (k : Int)))) Tt (.tup [.ref L, .ref R]) R = some (.lst (((f1 ++ f2).map fun k : Nat => (k : Int)).map V.int)) := by
                rw [same_new nTt _ _ upd_same, List.map_map, List.map_append]
                rfl
              refine k Tt L R _ ls xs _ nL gR.1 gR.2.2.symm upd_same hw6.2.2.2.1 hw6.2.2.2.2 hR (hw6.2.1.mono (by omega)) hw6.2.2.1 (by omega) ok ⟨?_, fun x hx => ?_⟩
              · have nr : (List.range xs.length).Nodup := List.nodup_range
                have n1 : cl.Nodup := by
                  rw [← hcl]
                  exact nr.filter _
                have n2 : il.Nodup := by
                  rw [← hil]
                  exact nr.filter _
                have nd : (f1 ++ f2).Nodup := List.nodup_append.mpr ⟨n1.sublist sl, n2.sublist sl2, fun a ha b hb e => by
                  subst e
                  have a1 := sl.subset ha
                  have a2 := sl2.subset hb
                  rw [← hil] at a2
                  exact absurd a1 (of_decide_eq_true (List.mem_filter.mp a2).2)⟩
                exact List.Pairwise.map _ (fun a b h => by omega) nd
              · obtain ⟨q, hq, rfl⟩ := List.mem_map.mp hx
                have : q ∈ List.range xs.length := by
                  rcases List.mem_append.mp hq with hq | hq
                  · have := sl.subset hq
                    rw [← hcl] at this
                    exact (List.mem_filter.mp this).1
                  · have := sl2.subset hq
                    rw [← hil] at this
                    exact (List.mem_filter.mp this).1
                rw [List.mem_range] at this
                omega
end
end K1
namespace K1
open PySem PySem.Spec PyProof.Rows L2 LK
/-- over a text's signs -/
theorem lc_str {x : Str} {g : TG} {tt : TT} {te : TE} {vs : List Nat} {σ : L2.St} {H1 : Hp} {D : Addr} {Qd : Hp → Prop} (Pv : Nat → Hp → Prop) (h0 : Pv 0 (upd H1 D (.lst [])))
    (hs : ∀ i c H, x.cps.toList[i]? = some c → Pv i H → g (.str ⟨#[c]⟩) (wipe σ vs) H fun σ2 H2 => wipe σ2 vs = wipe σ vs ∧ tt σ2 H2 fun b H3 =>
      if b = true then te σ2 H3 fun y H4 => ∃ acc, H4 D = some (.lst acc) ∧ acc.length < sizeLine ∧ Pv (i + 1) (upd H4 D (.lst (acc ++ [y]))) else Pv (i + 1) H3) (hd : ∀ H, Pv x.cps.toList.length H → Qd H) :
    ∃ W : Nat → Nat → Hp → Prop, (∃ m, W 0 m (upd H1 D (.lst []))) ∧ ∀ i m H, W i m H →
      ((Its x).stop i H ∧ Qd H) ∨ ((Its x).go i H ∧ ∃ Nx : Hp → Prop, (∀ H', Nx H' → ∃ m', m' < m ∧ W (i + 1) m' H') ∧ ∀ v H', (Its x).yld i H v H' → g v (wipe σ vs) H' fun σ2 H2 => wipe σ2 vs = wipe σ vs ∧ tt σ2 H2 fun b H3 =>
        if b = true then te σ2 H3 fun y H4 => ∃ acc, H4 D = some (.lst acc) ∧ acc.length < sizeLine ∧ Nx (upd H4 D (.lst (acc ++ [y]))) else Nx H3) := by
  refine ⟨fun i m H => m = x.cps.toList.length - i ∧ i ≤ x.cps.toList.length ∧ Pv i H, ⟨x.cps.toList.length, by simp, Nat.zero_le _, h0⟩, ?_⟩
  rintro i m H ⟨rfl, hi, p⟩
  by_cases hlt : i < x.cps.toList.length
  · have hlt' : i < x.cps.size := by simpa using hlt
    refine .inr ⟨hlt', Pv (i + 1), fun H' p' => ⟨x.cps.toList.length - (i + 1), by omega, rfl, hlt, p'⟩, fun v H' y => ?_⟩
    obtain ⟨e, c, hc, ev⟩ := y
    subst e ev
    exact hs i c _ (by simpa using hc) p
  · have e : i = x.cps.toList.length := by omega
    subst e
    refine .inl ⟨?_, hd H p⟩
    show x.cps.size ≤ x.cps.toList.length
    simp
/-- what the program asks of an integer, a number, a thread -/
def isIntD : PyData → Bool
  | .int _ => true
  | _ => false
def isNumD (many : Int) : PyData → Bool
  | .int i => decide (0 ≤ i ∧ i < many)
  | _ => false
def isThrD : PyData → Bool
  | .str z => decide (1 ≤ z.length ∧ z.length ≤ 8) && z.cps.toList.all fun c => decide (97 ≤ c ∧ c ≤ 122)
  | _ => false
def spInt (K : PySem.W.Frag) : Sp := fun vs H Q _ => ∃ (v : V) (d : PyData), vs = [v] ∧ Dp K H v d ∧ ∀ H', Same H H' → Q (.bl (isIntD d)) H'
def spNum (K : PySem.W.Frag) : Sp := fun vs H Q _ => ∃ (v : V) (d : PyData) (many : Int), vs = [v, .int many] ∧ Dp K H v d ∧ ∀ H', Same H H' → Q (.bl (isNumD many d)) H'
mutual
/-- short texts, short lists, all the way down -/
def tame : PyData → Bool
  | .list xs => decide (xs.length ≤ 1000) && tameAll xs
  | .tuple xs => decide (xs.length ≤ 1000) && tameAll xs
  | .str z => decide (z.length ≤ 1000)
  | _ => true
def tameAll : List PyData → Bool
  | [] => true
  | x :: r => tame x && tameAll r
end
theorem tame_mem : ∀ {ds : List PyData} {d : PyData}, tameAll ds = true → d ∈ ds → tame d = true
  | x :: r, d, h, e => by
    rw [tameAll, Bool.and_eq_true] at h
    rcases List.mem_cons.mp e with rfl | e
    · exact h.1
    · exact tame_mem h.2 e
theorem abc_mem {c : Nat} : c ∈ abc.cps.toList ↔ 97 ≤ c ∧ c ≤ 122 := by
  have : abc.cps.toList = List.range' 97 26 := by decide +kernel
  rw [this, List.mem_range'_1]
  omega
theorem sh_signs {z : Str} (h : PyData.canLay0 (.str z) = true) (f : Nat → Bool) : ∀ n, SeqAt.shaped (.list ((((z.cps.toList.take n).filter f).map fun c => (⟨#[c]⟩ : Str)).map PyData.str)) = true := fun n => by
  have hz : ∀ c ∈ z.cps.toList, c < 0x110000 := fun c hc => by
    have h' : z.cps.all (· < 0x110000) = true := h
    rw [Array.all_eq_true_iff_forall_mem] at h'
    exact of_decide_eq_true (h' c (by simpa using hc))
  have g : ∀ cs : List Nat, (∀ c ∈ cs, c < 0x110000) → PyData.canLayAll0 ((cs.map fun c => (⟨#[c]⟩ : Str)).map PyData.str) = true ∧ PyData.depthAll ((cs.map fun c => (⟨#[c]⟩ : Str)).map PyData.str) = 0 := by
    intro cs
    induction cs with
    | nil => exact fun _ => ⟨rfl, rfl⟩
    | cons c r ih =>
      intro hc
      obtain ⟨a, b⟩ := ih fun x hx => hc x (List.mem_cons_of_mem _ hx)
      constructor
      · rw [List.map_cons, List.map_cons, PyData.canLayAll0, a, Bool.and_true]
        show (#[c]).all (· < 0x110000) = true
        simp [hc c (List.mem_cons_self ..)]
      · rw [List.map_cons, List.map_cons, PyData.depthAll, b]
        rfl
  obtain ⟨a, b⟩ := g ((z.cps.toList.take n).filter f) fun c hc => hz c (List.mem_of_mem_take (List.mem_filter.mp hc).1)
  refine shaped_of (by simpa only [PyData.canLay0] using a) ?_
  simp only [PyData.depth, b]
  decide
theorem sz1000 : 1000 ≤ sizeLine := by decide
def spThr (K : PySem.W.Frag) : Sp := fun vs H Q _ => ∃ (v : V) (d : PyData), vs = [v] ∧ Dp K H v d ∧ tame d = true ∧ d.canLay0 = true ∧ ∀ H', Same H H' → Q (.bl (isThrD d)) H'
def spSpot (K : PySem.W.Frag) : Sp := fun vs H Q _ => ∃ (v : V) (d : PyData) (many : Int), vs = [.int many, v] ∧ Dp K H v d ∧ ∀ H', Same H H' → Q (.bl (isNumD many d)) H'
theorem isK_int {d : PyData} : (isK d "int" && !isK d "bool") = isIntD d := by
  cases d <;> rfl
theorem int_of {K : PySem.W.Frag} {H : Hp} {v : V} {d : PyData} (h : Dp K H v d) (e : isIntD d = true) : ∃ i, v = .int i ∧ d = .int i := by
  cases h with
  | int i => exact ⟨i, rfl, rfl⟩
  | _ => exact absurd e (by simp [isIntD])
theorem str_of {K : PySem.W.Frag} {H : Hp} {v : V} {d : PyData} (h : Dp K H v d) (e : isK d "str" = true) : ∃ z, v = .str z ∧ d = .str z := by
  cases h with
  | str z => exact ⟨z, rfl, rfl⟩
  | non => exact absurd e (by decide +kernel)
  | bl b => exact absurd (show isK (.bool true) "str" = true from e) (by decide +kernel)
  | int i => exact absurd (show isK (.int 0) "str" = true from e) (by decide +kernel)
  | lst _ _ => exact absurd (show isK (.list []) "str" = true from e) (by decide +kernel)
  | tup _ _ => exact absurd (show isK (.tuple []) "str" = true from e) (by decide +kernel)
section
variable {P : Program} {w : World} {K : PySem.W.Frag} {mg : Str → Option Value} {base : Heap}
abbrev sIsInt : Stmt := top 8
theorem scIsInt : FnScope ["value"] ["value"] (defScope sIsInt) := ⟨rfl, rfl, rfl, by decide +kernel, rfl, by decide +kernel, by decide +kernel⟩
theorem ok_IsInt {f : Addr} {fd : FuncData} (F : Fun K "is_integer" "is_integer" sIsInt f fd) (B : Bl mg) : FnOk P w K mg base CX0 1 f fd ["value"] (spInt K) := by
  refine F.ok scIsInt (fun vs H Q E h => ?_) (fun cdv A outer s H vs Q E hr h => ?_)
  · obtain ⟨v, d, rfl, _⟩ := h
    rfl
  · obtain ⟨v, d, rfl, h1, k⟩ := h
    refine ⟨_, pss_one (ps_ret (pe_and (pe_callB call_isi (by rfl) (B "isinstance" (by decide)) (by decide +kernel) (pa_cons (pv 0) (pa_cons (pe_bltn (v := .ty "int") rfl (B "int" (by decide)) (by decide +kernel) rfl) pa_nil))) (pe_one (pe_not (pe_callB call_isi (by rfl) (B "isinstance" (by decide)) (by decide +kernel) (pa_cons (pv 0) (pa_cons (pe_bltn (v := .ty "bool") rfl (B "bool" (by decide)) (by decide +kernel) rfl) pa_nil))))))), ?_⟩
    rw [← isK_int] at k
    refine ⟨_, rfl, _, _, _, _, _, rfl, .ty "int", dp_ty h1, kit_d h1 "int" (by decide), _, rfl, ?_⟩
    cases e : isK d "int" with
    | false =>
      refine LK.ifF rfl ?_
      have := k H (Same.refl H)
      rwa [e] at this
    | true =>
      refine LK.ifT rfl ⟨_, rfl, _, _, _, _, _, rfl, .ty "bool", dp_ty h1, kit_d h1 "bool" (by decide), _, rfl, ?_⟩
      have := k H (Same.refl H)
      rwa [e] at this
abbrev sIsNum : Stmt := top 9
theorem scIsNum : FnScope ["value", "many"] ["value", "many"] (defScope sIsNum) := ⟨rfl, rfl, rfl, by decide +kernel, rfl, by decide +kernel, by decide +kernel⟩
theorem ok_IsNum {f : Addr} {fd : FuncData} (F : Fun K "is_number" "is_number" sIsNum f fd) (B : Bl mg) {fi : Addr} {fdi : FuncData} (Gi : FnOk P w K mg base CX0 1 fi fdi ["value"] (spInt K)) (gi : mg "is_integer" = some (.ref fi)) (ki : PySem.W.keepIn K (.ref fi) = true) (bi : Binds K fdi ["value"] []) : FnOk P w K mg base CX0 2 f fd ["value", "many"] (spNum K) := by
  refine F.ok scIsNum (fun vs H Q E h => ?_) (fun cdv A outer s H vs Q E hr h => ?_)
  · obtain ⟨v, d, many, rfl, _⟩ := h
    rfl
  · obtain ⟨v, d, many, rfl, h1, k⟩ := h
    refine ⟨_, pss_one (ps_ret (pe_and (pe_call (E := E0) Gi (hr.mono (by decide)) rfl gi ki bi .nil pass0 (pa_cons (pv 0) pa_nil)) (pe_one (pe_chain op_le op_lt pe_int (pv 0) (pv 1))))), ?_⟩
    refine ⟨_, rfl, v, d, rfl, h1, fun H1 s1 => ⟨_, rfl, ?_⟩⟩
    cases e : isIntD d with
    | false =>
      refine LK.ifF rfl ?_
      have := k H1 s1
      have en : isNumD many d = false := by
        cases d <;> first | rfl | exact absurd e (by simp [isIntD])
      rwa [en] at this
    | true =>
      obtain ⟨i, rfl, rfl⟩ := int_of h1 e
      refine LK.ifT rfl ⟨_, rfl, _, _, rfl, rfl, _, rfl, ?_⟩
      have kk := k H1 s1
      rw [isNumD] at kk
      by_cases c0 : 0 ≤ i
      · refine LK.ifT (decide_eq_true c0) ⟨_, rfl, _, _, rfl, rfl, ?_⟩
        rwa [show decide (0 ≤ i ∧ i < many) = decide (i < many) by simp [c0]] at kk
      · refine LK.ifF (decide_eq_false c0) ?_
        rwa [show decide (0 ≤ i ∧ i < many) = false by simp [c0]] at kk
abbrev sSpot : Stmt := top 27
theorem scSpot : FnScope ["count", "thing"] ["count", "thing"] (defScope sSpot) := ⟨rfl, rfl, rfl, by decide +kernel, rfl, by decide +kernel, by decide +kernel⟩
theorem ok_Spot {f : Addr} {fd : FuncData} (F : Fun K "_law_is_spot" "_law_is_spot" sSpot f fd) (B : Bl mg) : FnOk P w K mg base CX0 1 f fd ["count", "thing"] (spSpot K) := by
  refine F.ok scSpot (fun vs H Q E h => ?_) (fun cdv A outer s H vs Q E hr h => ?_)
  · obtain ⟨v, d, many, rfl, _⟩ := h
    rfl
  · obtain ⟨v, d, many, rfl, h1, k⟩ := h
    refine ⟨_, pss_one (ps_ret (pe_and (pe_callB call_isi (by rfl) (B "isinstance" (by decide)) (by decide +kernel) (pa_cons (pv 1) (pa_cons (pe_bltn (v := .ty "int") rfl (B "int" (by decide)) (by decide +kernel) rfl) pa_nil))) (pe_and (pe_not (pe_callB call_isi (by rfl) (B "isinstance" (by decide)) (by decide +kernel) (pa_cons (pv 1) (pa_cons (pe_bltn (v := .ty "bool") rfl (B "bool" (by decide)) (by decide +kernel) rfl) pa_nil)))) (pe_one (pe_chain op_le op_lt pe_int (pv 1) (pv 0)))))), ?_⟩
    have kk := k H (Same.refl H)
    refine ⟨_, rfl, _, _, _, _, _, rfl, .ty "int", dp_ty h1, kit_d h1 "int" (by decide), _, rfl, ?_⟩
    have e := isK_int (d := d)
    have en : isIntD d = false → isNumD many d = false := fun e => by
      cases d <;> first | rfl | exact absurd e (by simp [isIntD])
    cases e1 : isK d "int" with
    | false =>
      rw [e1, Bool.false_and] at e
      rw [en e.symm] at kk
      exact LK.ifF rfl kk
    | true =>
      refine LK.ifT rfl ⟨_, rfl, _, _, _, _, _, rfl, .ty "bool", dp_ty h1, kit_d h1 "bool" (by decide), _, rfl, ?_⟩
      refine ⟨_, rfl, ?_⟩
      cases e2 : isK d "bool" with
      | true =>
        rw [e1, e2] at e
        rw [en e.symm] at kk
        exact LK.ifF rfl kk
      | false =>
        rw [e1, e2] at e
        obtain ⟨i, rfl, rfl⟩ := int_of h1 e.symm
        refine LK.ifT rfl ⟨_, rfl, _, _, rfl, rfl, _, rfl, ?_⟩
        rw [isNumD] at kk
        by_cases c0 : 0 ≤ i
        · refine LK.ifT (decide_eq_true c0) ⟨_, rfl, _, _, rfl, rfl, ?_⟩
          rwa [show decide (0 ≤ i ∧ i < many) = decide (i < many) by simp [c0]] at kk
        · refine LK.ifF (decide_eq_false c0) ?_
          rwa [show decide (0 ≤ i ∧ i < many) = false by simp [c0]] at kk
abbrev sIsThr : Stmt := top 10
theorem scIsThr : FnScope ["value", "sign"] ["value"] (defScope sIsThr) := ⟨rfl, rfl, rfl, by decide +kernel, rfl, by decide +kernel, by decide +kernel⟩
theorem ok_IsThr {f : Addr} {fd : FuncData} (F : Fun K "is_thread" "is_thread" sIsThr f fd) (B : Bl mg) (gL : ∃ t, mg "LONGEST_THREAD" = some (.int 8 t)) : FnOk P w K mg base CX0 1 f fd ["value"] (spThr K) := by
  refine F.ok scIsThr (fun vs H Q E h => ?_) (fun cdv A outer s H vs Q E hr h => ?_)
  · obtain ⟨v, d, rfl, _⟩ := h
    rfl
  · obtain ⟨v, d, rfl, h1, tm, lay, k⟩ := h
    obtain ⟨tk, gL⟩ := gL
    refine ⟨_, pss_cons (ps_if (PW.pt (pw_or (pt_not (pt_val (pe_callB call_isi (by rfl) (B "isinstance" (by decide)) (by decide +kernel) (pa_cons (pv 0) (pa_cons (pe_bltn (v := .ty "str") rfl (B "str" (by decide)) (by decide +kernel) rfl) pa_nil))))) (pw_or1 (pt_not (pt_chain op_le op_le pe_int (pe_callB call_len_str (by rfl) (B "len" (by decide)) (by decide +kernel) (pa_cons (pv 0) pa_nil)) (pe_glob (v := .int 8) rfl gL ⟨_, rfl⟩)))))) (pss_one (ps_ret pe_bl)) pss_nil)
      (pss_one (ps_ret (pe_callB (cr_all rfl) (by rfl) (B "all" (by decide)) (by decide +kernel) (pa_cons (pe_lc (own := [("sign", 1)]) (g := gName 1) (tt := tYes) rfl scIsThr.nd (pi_str (pv 0)) (blkOk_by (N := ["value", "sign"]) (sc := defScope sIsThr) (by decide +kernel)) (fun _ _ _ _ _ => pg_name (i := 1) scIsThr.nd rfl (Or.inl rfl)) (fun _ _ _ _ _ => pts_nil) (fun _ _ _ _ _ => pe_chain op_le_str op_le_str pe_str (pv 1) pe_str)) pa_nil)))), ?_⟩
    refine ⟨_, rfl, _, _, _, _, _, rfl, .ty "str", dp_ty h1, kit_d h1 "str" (by decide), _, rfl, ?_⟩
    have kk := k H (Same.refl H)
    cases e : isK d "str" with
    | false =>
      refine LK.ifT rfl (LK.ifT rfl ?_)
      have en : isThrD d = false := by
        cases d <;> first | rfl | exact absurd (show isK (.str "") "str" = false from e) (by decide +kernel)
      rwa [en] at kk
    | true =>
      obtain ⟨z, rfl, rfl⟩ := str_of h1 e
      have zl : z.length ≤ sizeLine := Nat.le_trans (of_decide_eq_true tm) sz1000
      refine LK.ifF rfl ⟨_, rfl, z, rfl, zl, _, _, rfl, rfl, _, rfl, ?_⟩
      have no : ¬ (1 ≤ z.length ∧ z.length ≤ 8) → isThrD (.str z) = false := fun n => by
        rw [isThrD, decide_eq_false n, Bool.false_and]
      by_cases c1 : (1 : Int) ≤ (z.length : Int)
      · refine LK.ifT (decide_eq_true c1) ⟨_, _, rfl, rfl, _, rfl, ?_⟩
        by_cases c2 : (z.length : Int) ≤ 8
        · refine LK.ifF (by simp [c2]) ⟨_, rfl, z, rfl, fun D nD => ?_⟩
          refine lc_str (x := z) (fun j H' => H' D = some (.lst ((((z.cps.toList.take j).map fun c => decide (97 ≤ c ∧ c ≤ 122)).map V.bl))) ∧ Same H H') ⟨upd_same, same_new nD⟩ (fun j c H' hj hh => ⟨rfl, ?_⟩) (fun H' hh => ?_)
          · obtain ⟨hD, s1⟩ := hh
            have fin : ∀ b : Bool, b = decide (97 ≤ c ∧ c ≤ 122) → ∃ acc, H' D = some (.lst acc) ∧ acc.length < sizeLine ∧ (L2.upd H' D (.lst (acc ++ [V.bl b])) D = some (.lst ((((z.cps.toList.take (j + 1)).map fun c => decide (97 ≤ c ∧ c ≤ 122)).map V.bl))) ∧ Same H (L2.upd H' D (.lst (acc ++ [V.bl b])))) := by
              rintro b rfl
              refine ⟨_, hD, ?_, ?_, fun b o e => ?_⟩
              · rw [List.length_map, List.length_map, List.length_take]
                have : z.cps.toList.length = z.length := by simp [Str.length]
                have : j < z.length := by
                  have := (List.getElem?_eq_some_iff.mp hj).1
                  omega
                exact Nat.lt_of_lt_of_le (by omega : _ < 100) (by decide)
              · rw [upd_same, List.take_succ, hj, List.map_append, List.map_append]
                rfl
              · rw [upd_ne (ne_of_none e nD)]
                exact s1 b o e
            have a1 : decide ([c] < ([97] : List Nat)) = decide (c < 97) := by simp [List.cons_lt_cons_iff]
            have a2 : decide (([122] : List Nat) < [c]) = decide (122 < c) := by simp [List.cons_lt_cons_iff]
            refine ⟨_, rfl, _, _, rfl, rfl, _, rfl, ?_⟩
            show if (!decide ([c] < ([97] : List Nat))) = true then _ else _
            rw [a1]
            by_cases k1 : c < 97
            · rw [decide_eq_true k1]
              exact LK.ifF rfl (fin false (by simp; omega))
            · rw [decide_eq_false k1]
              refine LK.ifT rfl ⟨_, _, rfl, rfl, fin _ ?_⟩
              show (!decide (([122] : List Nat) < [c])) = _
              rw [a2]
              rw [Bool.eq_iff_iff]
              simp
              omega
          · obtain ⟨hD, s1⟩ := hh
            refine ⟨D, _, rfl, SqL.of hD, ?_⟩
            have kk := k H' s1
            rw [isThrD, decide_eq_true ⟨by omega, by omega⟩, Bool.true_and] at kk
            rw [List.take_length, List.all_map]
            exact kk
        · refine LK.ifT (by simp [c2]) ?_
          rwa [no (by omega)] at kk
      · refine LK.ifF (decide_eq_false c1) ⟨_, rfl, LK.ifT rfl ?_⟩
        rwa [no (by omega)] at kk
abbrev sYarn : Stmt := top 26
theorem scYarn : FnScope ["thing", "signs", "sign"] ["thing"] (defScope sYarn) := ⟨rfl, rfl, rfl, by decide +kernel, rfl, by decide +kernel, by decide +kernel⟩
theorem ok_Yarn {f : Addr} {fd : FuncData} (F : Fun K "_law_is_yarn" "_law_is_yarn" sYarn f fd) (B : Bl mg) : FnOk P w K mg base CX0 1 f fd ["thing"] (spThr K) := by
  refine F.ok scYarn (fun vs H Q E h => ?_) (fun cdv A outer s H vs Q E hr h => ?_)
  · obtain ⟨v, d, rfl, _⟩ := h
    rfl
  · obtain ⟨v, d, rfl, h1, tm, lay, k⟩ := h
    refine ⟨_, pss_cons (ps_set (i := 1) scYarn.nd rfl (Or.inr rfl) pe_str)
      (pss_one (ps_ret (pe_and (pe_callB call_isi (by rfl) (B "isinstance" (by decide)) (by decide +kernel) (pa_cons (pv 0) (pa_cons (pe_bltn (v := .ty "str") rfl (B "str" (by decide)) (by decide +kernel) rfl) pa_nil))) (pe_and (pe_chain op_lt op_lt pe_int (pe_callB call_len_str (by rfl) (B "len" (by decide)) (by decide +kernel) (pa_cons (pv 0) pa_nil)) pe_int) (pe_one (pe_cmpR (op_eqD hr.units) (pe_lc (own := [("sign", 2)]) (g := gName 2) rfl scYarn.nd (pi_str (pv 0)) (blkOk_by (N := ["thing", "signs", "sign"]) (sc := defScope sYarn) (by decide +kernel)) (fun _ _ _ _ _ => pg_name (i := 2) scYarn.nd rfl (Or.inl rfl)) (fun _ _ _ _ _ => pts_one (pt_cmpR op_notIn_sign (pv 2) (pv 1) (by rfl))) (fun _ _ _ _ _ => pv 2)) (pe_lst pa_nil) (nomark _))))))), ?_⟩
    refine ⟨_, rfl, _, _, _, _, _, rfl, .ty "str", dp_ty h1, kit_d h1 "str" (by decide), _, rfl, ?_⟩
    have kk := k H (Same.refl H)
    cases e : isK d "str" with
    | false =>
      refine LK.ifF rfl ?_
      have en : isThrD d = false := by
        cases d <;> first | rfl | exact absurd (show isK (.str "") "str" = false from e) (by decide +kernel)
      rwa [en] at kk
    | true =>
      obtain ⟨z, rfl, rfl⟩ := str_of h1 e
      have zl : z.length ≤ sizeLine := Nat.le_trans (of_decide_eq_true tm) sz1000
      refine LK.ifT rfl ⟨_, rfl, z, rfl, zl, _, _, rfl, rfl, _, rfl, ?_⟩
      have no : ¬ (1 ≤ z.length ∧ z.length ≤ 8) → isThrD (.str z) = false := fun n => by
        rw [isThrD, decide_eq_false n, Bool.false_and]
      by_cases c1 : (0 : Int) < (z.length : Int)
      · refine LK.ifT (decide_eq_true c1) ⟨_, _, rfl, rfl, _, rfl, ?_⟩
        by_cases c2 : (z.length : Int) < 9
        · refine LK.ifT (decide_eq_true c2) ⟨_, rfl, z, rfl, fun D nD => ?_⟩
          refine lc_str (x := z) (fun j H' => H' D = some (.lst (((((z.cps.toList.take j).filter fun c => !decide (c ∈ abc.cps.toList)).map fun c => (⟨#[c]⟩ : Str))).map V.str)) ∧ Same H H') ⟨upd_same, same_new nD⟩ (fun j c H' hj hh => ⟨rfl, ?_⟩) (fun H' hh => ?_)
          · obtain ⟨hD, s1⟩ := hh
            have tk : z.cps.toList.take (j + 1) = z.cps.toList.take j ++ [c] := by
              rw [List.take_succ, hj]
              rfl
            refine ⟨_, rfl, _, rfl, c, abc, rfl, rfl, _, rfl, ?_⟩
            rw [tk, List.filter_append]
            by_cases m : c ∈ abc.cps.toList
            · have f1 : [c].filter (fun c => !decide (c ∈ abc.cps.toList)) = [] := by
                rw [List.filter_cons, decide_eq_true m]
                rfl
              refine LK.ifF (by rw [decide_eq_true m]; rfl) ⟨?_, s1⟩
              rw [hD, f1, List.append_nil]
            · have f1 : [c].filter (fun c => !decide (c ∈ abc.cps.toList)) = [c] := by
                rw [List.filter_cons, decide_eq_false m]
                rfl
              refine LK.ifT (by rw [decide_eq_false m]; rfl) ⟨_, rfl, _, hD, ?_, ?_, fun b o e => ?_⟩
              · rw [List.length_map, List.length_map]
                have z1 := List.length_filter_le (fun c => !decide (c ∈ abc.cps.toList)) (z.cps.toList.take j)
                rw [List.length_take] at z1
                have z2 : z.cps.toList.length = z.length := by simp [Str.length]
                exact Nat.lt_of_lt_of_le (by omega : _ < 100) (by decide)
              · rw [upd_same, f1, List.map_append, List.map_append]
                rfl
              · rw [upd_ne (ne_of_none e nD)]
                exact s1 b o e
          · obtain ⟨hD, s1⟩ := hh
            refine ⟨(by show 0 ≤ sizeLine; decide), fun E1 nE => ?_⟩
            have s2 := same_new (o := .lst []) nE
            refine ⟨_, .list [], .lst (SqL.of (s2 _ _ hD)) (dp_strs _), .lst (SqL.of upd_same) .nil, sh_signs lay _ _, by decide, ?_⟩
            rw [eqv_nil, List.isEmpty_map, List.take_length]
            have kk := k _ (fun b o e => s2 b o (s1 b o e))
            rw [isThrD, decide_eq_true ⟨by omega, by omega⟩, Bool.true_and] at kk
            rwa [show ((z.cps.toList.filter fun c => !decide (c ∈ abc.cps.toList)).isEmpty) = (z.cps.toList.all fun c => decide (97 ≤ c ∧ c ≤ 122)) by
              rw [Bool.eq_iff_iff, List.isEmpty_iff, List.filter_eq_nil_iff, List.all_eq_true]
              simp only [abc_mem]
              simp]
        · refine LK.ifF (decide_eq_false c2) ?_
          rwa [no (by omega)] at kk
      · refine LK.ifF (decide_eq_false c1) ⟨_, rfl, LK.ifF rfl ?_⟩
        rwa [no (by omega)] at kk
end
end K1
namespace K1
open PySem PySem.Spec PyProof.Rows L2 LK
/-- a loop over enumerate of a list that stands still -/
theorem for_enum {K : PySem.W.Frag} {a : Addr} {xs : List V} {g : TG} {tb : TS} {D : Ends} {σ : L2.St} {H : Hp} (Pv : Nat → L2.St → Hp → Prop) (h0 : Pv 0 σ H) (hq : ∀ i σ H, Pv i σ H → SqL K H a xs)
    (hs : ∀ (i : Nat) (x : V) (T : Addr) (σ : L2.St) (H : Hp), xs[i]? = some x → Pv i σ H → H T = none → g (.ref T) σ (upd H T (.tup [.int (i : Nat), x])) fun σ2 H2 => tb { D with nx := Pv (i + 1), ct := Pv (i + 1), bk := D.nx } σ2 H2) (hd : ∀ σ H, Pv xs.length σ H → D.nx σ H) :
    ∃ W : Nat → Nat → L2.St → Hp → Prop, (∃ m, W 0 m σ H) ∧ ∀ i m σ H, W i m σ H →
      ((Ite K a).stop i H ∧ D.nx σ H) ∨ ((Ite K a).go i H ∧ ∃ N : L2.St → Hp → Prop, (∀ σ' H', N σ' H' → ∃ m', m' < m ∧ W (i + 1) m' σ' H') ∧ ∀ v H', (Ite K a).yld i H v H' → g v σ H' fun σ2 H2 => tb { D with nx := N, ct := N, bk := D.nx } σ2 H2) := by
  refine ⟨fun i m σ H => m = xs.length - i ∧ i ≤ xs.length ∧ Pv i σ H, ⟨xs.length, rfl, Nat.zero_le _, h0⟩, ?_⟩
  rintro i m σ H ⟨rfl, hi, p⟩
  have qx := hq i σ H p
  by_cases hlt : i < xs.length
  · have hx : xs[i]? = some xs[i] := List.getElem?_eq_getElem hlt
    refine .inr ⟨⟨xs, _, qx, hx⟩, Pv (i + 1), fun σ' H' p' => ⟨xs.length - (i + 1), by omega, rfl, hlt, p'⟩, fun v H' y => ?_⟩
    obtain ⟨T, x', rfl, hT, rfl, f1⟩ := y
    exact hs i x' T σ H (f1 xs qx) p hT
  · have e : i = xs.length := by omega
    subst e
    exact .inl ⟨⟨xs, qx, Nat.le_refl _⟩, hd σ H p⟩
def hasInt (ds : List PyData) (i : Int) : Bool := ds.any fun d => match d with
  | .int j => j == i
  | _ => false
/-- the number at k is none, or stands ahead already -/
def lotBad (many : Int) (ds : List PyData) (k : Nat) : Bool := match ds[k]? with
  | some (.int i) => !decide (0 ≤ i ∧ i < many) || hasInt (ds.take k) i
  | some _ => true
  | none => false
def lotFault (many : Int) : PyData → Option Int
  | .list ds => ((List.range ds.length).find? (lotBad many ds)).map fun k : Nat => (k : Int)
  | _ => some (-1)
def optV : Option Int → V
  | none => .non
  | some i => .int i
def spLot (K : PySem.W.Frag) : Sp := fun vs H Q _ => ∃ (v : V) (d : PyData) (many : Int), vs = [v, .int many] ∧ Dp K H v d ∧ tame d = true ∧ ∀ H', Same H H' → Q (optV (lotFault many d)) H'
def spLot2 (K : PySem.W.Frag) : Sp := fun vs H Q _ => ∃ (v : V) (d : PyData) (many : Int), vs = [.int many, v] ∧ Dp K H v d ∧ tame d = true ∧ ∀ H', Same H H' → Q (optV (lotFault many d)) H'
theorem list_of {K : PySem.W.Frag} {H : Hp} {v : V} {d : PyData} (h : Dp K H v d) (e : isK d "list" = true) : ∃ a xs ds, v = .ref a ∧ d = .list ds ∧ SqL K H a xs ∧ DpAll K H xs ds := by
  cases h with
  | lst s a => exact ⟨_, _, _, rfl, rfl, s, a⟩
  | non => exact absurd e (by decide +kernel)
  | bl b => exact absurd (show isK (.bool true) "list" = true from e) (by decide +kernel)
  | int i => exact absurd (show isK (.int 0) "list" = true from e) (by decide +kernel)
  | str z => exact absurd (show isK (.str "") "list" = true from e) (by decide +kernel)
  | tup _ _ => exact absurd (show isK (.tuple []) "list" = true from e) (by decide +kernel)
theorem tup_of {K : PySem.W.Frag} {H : Hp} {v : V} {d : PyData} (h : Dp K H v d) (e : isK d "tuple" = true) : ∃ a xs ds, v = .ref a ∧ d = .tuple ds ∧ SqT K H a xs ∧ DpAll K H xs ds := by
  cases h with
  | tup s a => exact ⟨_, _, _, rfl, rfl, s, a⟩
  | non => exact absurd e (by decide +kernel)
  | bl b => exact absurd (show isK (.bool true) "tuple" = true from e) (by decide +kernel)
  | int i => exact absurd (show isK (.int 0) "tuple" = true from e) (by decide +kernel)
  | str z => exact absurd (show isK (.str "") "tuple" = true from e) (by decide +kernel)
  | lst _ _ => exact absurd (show isK (.list []) "tuple" = true from e) (by decide +kernel)
theorem lot_no {many : Int} {d : PyData} (e : isK d "list" = false) : lotFault many d = some (-1) := by
  cases d <;> first | rfl | exact absurd (show isK (.list []) "list" = false from e) (by decide +kernel)
theorem find_all {p : Nat → Bool} {n : Nat} (h : ∀ k < n, p k = false) : (List.range n).find? p = none := by
  rw [List.find?_eq_none]
  intro x hx
  simp [h x (List.mem_range.mp hx)]
theorem find_at {p : Nat → Bool} {n k : Nat} (hk : k < n) (h : ∀ j < k, p j = false) (hp : p k = true) : (List.range n).find? p = some k := by
  have e : List.range n = List.range k ++ k :: (List.range' (k + 1) (n - k - 1)) := by
    have h1 : n = k + (n - k) := by omega
    have h2 : n - k = (n - k - 1) + 1 := by omega
    rw [List.range_eq_range', List.range_eq_range', h1, ← List.range'_append_1, Nat.zero_add, show k + (n - k) - k = n - k by omega, h2, List.range'_succ]
    rfl
  rw [e, List.find?_append, find_all h, Option.none_or, List.find?_cons, hp]
theorem lotBad_no {many : Int} {ds : List PyData} {k : Nat} {d : PyData} (e : ds[k]? = some d) (n : isNumD many d = false) : lotBad many ds k = true := by
  unfold lotBad
  rw [e]
  cases d with
  | int i =>
    rw [isNumD] at n
    show (!decide (0 ≤ i ∧ i < many) || _) = true
    rw [n]
    rfl
  | _ => rfl
theorem lotBad_int {many : Int} {ds : List PyData} {k : Nat} {i : Int} (e : ds[k]? = some (.int i)) (n : isNumD many (.int i) = true) : lotBad many ds k = hasInt (ds.take k) i := by
  unfold lotBad
  rw [e]
  rw [isNumD] at n
  show (!decide (0 ≤ i ∧ i < many) || _) = _
  rw [n]
  rfl
theorem num_int {many : Int} {d : PyData} (n : isNumD many d = true) : isIntD d = true := by
  cases d <;> first | rfl | exact absurd n (by simp [isNumD])
theorem hasInt_more {ds : List PyData} {k : Nat} {i : Int} (e : ds[k]? = some (.int i)) : hasInt (ds.take (k + 1)) = fun j => hasInt (ds.take k) j || decide (j = i) := by
  funext j
  unfold hasInt
  rw [List.take_succ, e, List.any_append]
  simp only [Option.toList, List.any_cons, List.any_nil, Bool.or_false]
  congr 1
  rw [Bool.eq_iff_iff]
  simp
  exact ⟨fun h => h.symm, fun h => h.symm⟩
theorem nums_take {K : PySem.W.Frag} {H : Hp} {many : Int} : ∀ {xs : List V} {ds : List PyData} {k : Nat}, DpAll K H xs ds → (∀ j < k, ∀ d, ds[j]? = some d → isNumD many d = true) → ∃ ns : List Int, xs.take k = ns.map V.int ∧ ds.take k = ns.map PyData.int
  | _, _, _, .nil, _ => ⟨[], by simp, by simp⟩
  | _, _, 0, .cons _ _, _ => ⟨[], rfl, rfl⟩
  | _, _, k + 1, .cons a r, h => by
    have h0 := h 0 (by omega) _ rfl
    obtain ⟨i, rfl, rfl⟩ := int_of a (num_int h0)
    obtain ⟨ns, e1, e2⟩ := nums_take (k := k) r fun j hj d e => h (j + 1) (by omega) d e
    exact ⟨i :: ns, by rw [List.take_succ_cons, e1]; rfl, by rw [List.take_succ_cons, e2]; rfl⟩
theorem hasInt_ints (ns : List Int) (i : Int) : hasInt (ns.map PyData.int) i = decide (i ∈ ns) := by
  unfold hasInt
  rw [List.any_map, Bool.eq_iff_iff, List.any_eq_true]
  simp
theorem bad_num {many : Int} {ds : List PyData} {j : Nat} {d : PyData} (h : lotBad many ds j = false) (e : ds[j]? = some d) : isNumD many d = true := by
  cases q : isNumD many d with
  | true => rfl
  | false => rw [lotBad_no e q] at h; cases h
theorem cut_take {xs : List V} {i : Nat} (h : i ≤ xs.length) : cutV xs none (some (i : Int)) = xs.take i := by
  unfold cutV
  rw [HT.sIx_nat, HT.sIx_none, List.drop_zero, Nat.sub_zero, Nat.min_eq_left h]
section
variable {P : Program} {w : World} {K : PySem.W.Frag} {mg : Str → Option Value} {base : Heap}
abbrev sWrong : Stmt := top 11
theorem scWrong : FnScope ["numbers", "many", "seen", "index", "number"] ["numbers", "many"] (defScope sWrong) := ⟨rfl, rfl, rfl, by decide +kernel, rfl, by decide +kernel, by decide +kernel⟩
theorem ok_Wrong {f : Addr} {fd : FuncData} (F : Fun K "wrong_number" "wrong_number" sWrong f fd) (B : Bl mg) {fn : Addr} {fdn : FuncData} (Gn : FnOk P w K mg base CX0 2 fn fdn ["value", "many"] (spNum K)) (gn : mg "is_number" = some (.ref fn)) (kn : PySem.W.keepIn K (.ref fn) = true) (bn : Binds K fdn ["value", "many"] []) : FnOk P w K mg base CX0 3 f fd ["numbers", "many"] (spLot K) := by
  refine F.ok scWrong (fun vs H Q E h => ?_) (fun cdv A outer s H vs Q E hr h => ?_)
  · obtain ⟨v, d, many, rfl, _⟩ := h
    rfl
  · obtain ⟨v, d, many, rfl, h1, tm, k⟩ := h
    refine ⟨_, pss_cons (ps_if (pt_not (pt_val (pe_callB call_isi (by rfl) (B "isinstance" (by decide)) (by decide +kernel) (pa_cons (pv 0) (pa_cons (pe_bltn (v := .ty "list") rfl (B "list" (by decide)) (by decide +kernel) rfl) pa_nil))))) (pss_one (ps_ret (pe_un un_neg pe_int))) pss_nil)
      (pss_cons (ps_set (i := 2) scWrong.nd rfl (Or.inl rfl) (pe_callTy0 cr_set0 (by rfl) (B "set" (by decide)) (by decide +kernel)))
      (pss_cons (ps_for PassesOwn.never rfl (pi_enum (by rfl) (B "enumerate" (by decide)) (pa_cons (pv 0) pa_nil)) (pg_tup rfl (pgs_cons (pg_name (i := 3) scWrong.nd rfl (Or.inl rfl)) (pgs_cons (pg_name (i := 4) scWrong.nd rfl (Or.inl rfl)) pgs_nil))) (pss_cons (ps_if (PW.pt (pw_or (pt_not (pt_val (pe_call (E := E0) Gn (hr.mono (by decide)) rfl gn kn bn .nil pass0 (pa_cons (pv 4) (pa_cons (pv 1) pa_nil))))) (pw_or1 (pt_cmpR or_sin (pv 4) (pv 2) (by rfl))))) (pss_one (ps_ret (pv 3))) pss_nil)
      (pss_one (ps_expr (pe_sadd (pv 2) (pa_cons (pv 4) pa_nil))))))
      (pss_one (ps_ret pe_non)))), ?_⟩
    refine ⟨_, rfl, _, _, _, _, _, rfl, .ty "list", dp_ty h1, kit_d h1 "list" (by decide), _, rfl, ?_⟩
    cases e : isK d "list" with
    | false =>
      refine LK.ifT rfl ⟨1, rfl, ?_⟩
      have := k H (Same.refl H)
      rwa [lot_no e] at this
    | true =>
      obtain ⟨a, xs, ds, rfl, rfl, hs, hd⟩ := list_of h1 e
      have ln : ds.length ≤ 1000 := by
        rw [tame, Bool.and_eq_true] at tm
        exact of_decide_eq_true tm.1
      have xl := dps_len hd
      refine LK.ifF rfl ⟨rfl, fun S nS => ?_⟩
      refine ⟨_, rfl, a, xs, rfl, (same_new nS).seq hs, ?_⟩
      refine for_enum (xs := xs) (fun i σ H' => ∃ (o3 o4 : Option V) (n : Nat), σ = [some (.ref a), some (.int many), some (.ref S), o3, o4] ∧ H' S = some (SetO w S (hasInt (ds.take i)) n) ∧ n ≤ i ∧ (∀ k < i, lotBad many ds k = false) ∧ Same H H')
        ⟨_, _, 0, rfl, upd_same, Nat.le_refl _, fun k h => absurd h (Nat.not_lt_zero _), same_new nS⟩ (fun i σ H' h => h.choose_spec.choose_spec.choose_spec.2.2.2.2.seq hs) (fun i x T σ H' hx hI nT => ?_) (fun σ H' hI => ?_)
      · obtain ⟨o3, o4, n, rfl, hS, hn, hb, s1⟩ := hI
        obtain ⟨x', d, hx', hd', dx⟩ := dps_at hd (i := i) (by rw [← xl]; exact (List.getElem?_eq_some_iff.mp hx).1)
        obtain rfl : x = x' := by
          rw [hx] at hx'
          exact Option.some.inj hx'
        have s2 := same_new (o := .tup [.int (i : Nat), x]) nT
        have s3 : Same H _ := fun b o e => s2 b o (s1 b o e)
        have hS2 := s2 _ _ hS
        refine ⟨T, _, rfl, .inl (.inl upd_same), rfl, _, _, rfl, _, _, rfl, rfl, ?_⟩
        refine ⟨_, rfl, _, rfl, x, d, many, rfl, dp_same s3 dx, fun H2 s4 => ⟨_, rfl, ?_⟩⟩
        have s5 : Same H H2 := fun b o e => s4 b o (s3 b o e)
        have hS3 := s4 _ _ hS2
        have il : i < ds.length := by
          rw [← xl]
          exact (List.getElem?_eq_some_iff.mp hx).1
        cases e1 : isNumD many d with
        | false =>
          refine LK.ifT rfl (LK.ifT rfl ⟨_, rfl, ?_⟩)
          have := k H2 s5
          rwa [lotFault, find_at il hb (lotBad_no hd' e1)] at this
        | true =>
          obtain ⟨q, rfl, rfl⟩ := int_of dx (num_int e1)
          refine LK.ifF rfl ⟨_, rfl, _, rfl, q, S, _, n, rfl, rfl, hS3, _, rfl, ?_⟩
          cases e2 : hasInt (ds.take i) q with
          | true =>
            refine LK.ifT rfl ⟨_, rfl, ?_⟩
            have := k H2 s5
            rwa [lotFault, find_at il hb ((lotBad_int hd' e1).trans e2)] at this
          | false =>
            refine LK.ifF rfl ⟨_, rfl, ⟨S, _, n, rfl, hS3⟩, _, rfl, S, q, _, n, rfl, rfl, hS3, ?_, _, _, n + 1, rfl, ?_, ?_, ?_, ?_⟩
            · show n + 1 < 4096
              omega
            · rw [upd_same, hasInt_more hd', if_neg (by rw [e2]; decide)]
              rfl
            · omega
            · intro k' hk'
              by_cases ek : k' = i
              · subst ek
                exact (lotBad_int hd' e1).trans e2
              · exact hb k' (by omega)
            · intro b o eb
              rw [upd_ne (ne_of_none eb nS)]
              exact s5 b o eb
      · obtain ⟨o3, o4, n, rfl, hS, hn, hb, s1⟩ := hI
        have := k H' s1
        rw [lotFault, find_all (fun j hj => hb j (by omega))] at this
        exact this
abbrev sLot : Stmt := top 28
theorem scLot : FnScope ["count", "thing", "k"] ["count", "thing"] (defScope sLot) := ⟨rfl, rfl, rfl, by decide +kernel, rfl, by decide +kernel, by decide +kernel⟩
theorem ok_Lot {f : Addr} {fd : FuncData} (F : Fun K "_law_lot_fault" "_law_lot_fault" sLot f fd) (B : Bl mg) {fs : Addr} {fds : FuncData} (Gs : FnOk P w K mg base CX0 1 fs fds ["count", "thing"] (spSpot K)) (gs : mg "_law_is_spot" = some (.ref fs)) (ks : PySem.W.keepIn K (.ref fs) = true) (bs : Binds K fds ["count", "thing"] []) : FnOk P w K mg base CX0 2 f fd ["count", "thing"] (spLot2 K) := by
  refine F.ok scLot (fun vs H Q E h => ?_) (fun cdv A outer s H vs Q E hr h => ?_)
  · obtain ⟨v, d, many, rfl, _⟩ := h
    rfl
  · obtain ⟨v, d, many, rfl, h1, tm, k⟩ := h
    refine ⟨_, pss_cons (ps_if (pt_not (pt_val (pe_callB call_isi (by rfl) (B "isinstance" (by decide)) (by decide +kernel) (pa_cons (pv 1) (pa_cons (pe_bltn (v := .ty "list") rfl (B "list" (by decide)) (by decide +kernel) rfl) pa_nil))))) (pss_one (ps_ret (pe_un un_neg pe_int))) pss_nil)
      (pss_cons (ps_for PassesOwn.never rfl (pi_range1 (by rfl) (B "range" (by decide)) (pa_cons (pe_callB call_len_seq (by rfl) (B "len" (by decide)) (by decide +kernel) (pa_cons (pv 1) pa_nil)) pa_nil)) (pg_name (i := 2) scLot.nd rfl (Or.inl rfl)) (pss_one (ps_if (PW.pt (pw_or (pt_not (pt_val (pe_call (E := E0) Gs (hr.mono (by decide)) rfl gs ks bs .nil pass0 (pa_cons (pv 0) (pa_cons (pe_ix ix_list (pv 1) (pv 2) (fun _ _ => rfl)) pa_nil))))) (pw_or1 (pt_cmpR op_in_seq (pe_ix ix_list (pv 1) (pv 2) (fun _ _ => rfl)) (pe_slice sl_list (pv 1) po_none (po_some (pv 2))) (by rfl))))) (pss_one (ps_ret (pv 2))) pss_nil)))
      (pss_one (ps_ret pe_non))), ?_⟩
    refine ⟨_, rfl, _, _, _, _, _, rfl, .ty "list", dp_ty h1, kit_d h1 "list" (by decide), _, rfl, ?_⟩
    cases e : isK d "list" with
    | false =>
      refine LK.ifT rfl ⟨1, rfl, ?_⟩
      have := k H (Same.refl H)
      rwa [lot_no e] at this
    | true =>
      obtain ⟨a, xs, ds, rfl, rfl, hs, hd⟩ := list_of h1 e
      have ln : ds.length ≤ 1000 := by
        rw [tame, Bool.and_eq_true] at tm
        exact of_decide_eq_true tm.1
      have xl := dps_len hd
      refine LK.ifF rfl ⟨_, rfl, a, xs, rfl, .inl hs, _, rfl, by omega, by omega, ?_⟩
      refine for_range (lo := 0) (n := xs.length) (fun i σ H' => ∃ (o2 : Option V), σ = [some (.int many), some (.ref a), o2] ∧ (∀ k < i, lotBad many ds k = false) ∧ Same H H')
        ⟨_, rfl, fun k h => absurd h (Nat.not_lt_zero _), Same.refl H⟩ (fun i σ H' il hI => ?_) (fun σ H' hI => ?_)
      · obtain ⟨o2, rfl, hb, s1⟩ := hI
        have iz : (0 + (i : Int)) = (i : Int) := Int.zero_add _
        obtain ⟨x, d, hx, hd', dx⟩ := dps_at hd (i := i) (by omega)
        have at1 : atI xs (0 + (i : Int)) = some x := by
          rw [iz]
          exact atI_nat hx
        refine ⟨_, rfl, _, rfl, _, rfl, a, xs, _, x, rfl, rfl, s1.seq hs, at1, x, d, many, rfl, dp_same s1 dx, fun H2 s4 => ⟨_, rfl, ?_⟩⟩
        have s5 : Same H H2 := fun b o e => s4 b o (s1 b o e)
        cases e1 : isNumD many d with
        | false =>
          refine LK.ifT rfl (LK.ifT rfl ⟨_, rfl, ?_⟩)
          have := k H2 s5
          rw [lotFault, find_at (by omega) hb (lotBad_no hd' e1)] at this
          show Q (.int (0 + (i : Int))) H2
          rw [iz]
          exact this
        | true =>
          obtain ⟨q, rfl, rfl⟩ := int_of dx (num_int e1)
          refine LK.ifF rfl ⟨_, rfl, _, rfl, a, xs, _, _, rfl, rfl, s5.seq hs, at1, _, rfl, _, rfl, _, rfl, a, xs, rfl, s5.seq hs, fun p np => ?_⟩
          obtain ⟨ns, n1, n2⟩ := nums_take (k := i) hd fun j hj d e => bad_num (hb j hj) e
          rw [iz, cut_take (by omega), n1]
          refine ⟨p, _, rfl, .inl (SqL.of upd_same), rfl, flat_ints ns, _, rfl, ?_⟩
          have s6 : Same H _ := fun b o e => same_new (o := .lst (ns.map V.int)) np b o (s5 b o e)
          have hh : lotBad many ds i = decide (q ∈ ns) := by rw [lotBad_int hd' e1, n2, hasInt_ints]
          show if (inV (.int q) (ns.map V.int)) = true then _ else _
          rw [inV_int]
          cases e2 : decide (q ∈ ns) with
          | true =>
            refine LK.ifT rfl ⟨_, rfl, ?_⟩
            have := k _ s6
            rw [lotFault, find_at (by omega) hb (hh.trans e2)] at this
            exact this
          | false =>
            refine LK.ifF rfl ⟨_, rfl, fun k' hk' => ?_, s6⟩
            by_cases ek : k' = i
            · subst ek
              exact hh.trans e2
            · exact hb k' (by omega)
      · obtain ⟨o2, rfl, hb, s1⟩ := hI
        have := k H' s1
        rw [lotFault, find_all (fun j hj => hb j (by omega))] at this
        exact this
end
end K1
namespace K1
open PySem PySem.Spec PyProof.Rows L2 LK RZ
/-- over zip of two tuples, the second not longer -/
theorem lc_zipT {K : PySem.W.Frag} {a b : Addr} {xs ys : List V} {g : TG} {tt : TT} {te : TE} {vs : List Nat} {σ : L2.St} {H1 : Hp} {D : Addr} {Qd : Hp → Prop} (hl : ys.length ≤ xs.length) (Pv : Nat → Hp → Prop) (h0 : Pv 0 (upd H1 D (.lst []))) (hq : ∀ i H, Pv i H → SqT K H a xs ∧ SqT K H b ys)
    (hs : ∀ i x y T H, xs[i]? = some x → ys[i]? = some y → Pv i H → H T = none → g (.ref T) (wipe σ vs) (upd H T (.tup [x, y])) fun σ2 H2 => wipe σ2 vs = wipe σ vs ∧ tt σ2 H2 fun b H3 =>
      if b = true then te σ2 H3 fun y H4 => ∃ acc, H4 D = some (.lst acc) ∧ acc.length < sizeLine ∧ Pv (i + 1) (upd H4 D (.lst (acc ++ [y]))) else Pv (i + 1) H3) (hd : ∀ H, Pv ys.length H → Qd H) :
    ∃ W : Nat → Nat → Hp → Prop, (∃ m, W 0 m (upd H1 D (.lst []))) ∧ ∀ i m H, W i m H →
      ((ItzT K a b).stop i H ∧ Qd H) ∨ ((ItzT K a b).go i H ∧ ∃ Nx : Hp → Prop, (∀ H', Nx H' → ∃ m', m' < m ∧ W (i + 1) m' H') ∧ ∀ v H', (ItzT K a b).yld i H v H' → g v (wipe σ vs) H' fun σ2 H2 => wipe σ2 vs = wipe σ vs ∧ tt σ2 H2 fun b H3 =>
        if b = true then te σ2 H3 fun y H4 => ∃ acc, H4 D = some (.lst acc) ∧ acc.length < sizeLine ∧ Nx (upd H4 D (.lst (acc ++ [y]))) else Nx H3) := by
  refine ⟨fun i m H => m = ys.length - i ∧ i ≤ ys.length ∧ Pv i H, ⟨ys.length, by simp, Nat.zero_le _, h0⟩, ?_⟩
  rintro i m H ⟨rfl, hi, p⟩
  obtain ⟨qx, qy⟩ := hq i H p
  by_cases hlt : i < ys.length
  · have hy : ys[i]? = some ys[i] := List.getElem?_eq_getElem hlt
    have hx : xs[i]? = some (xs[i]'(by omega)) := List.getElem?_eq_getElem (by omega)
    refine .inr ⟨⟨xs, ys, _, _, qx, qy, hx, hy⟩, Pv (i + 1), fun H' p' => ⟨ys.length - (i + 1), by omega, rfl, hlt, p'⟩, fun v H' y => ?_⟩
    obtain ⟨T, x', y', rfl, hT, rfl, f1, f2⟩ := y
    exact hs i x' y' T H (f1 xs qx) (f2 ys qy) p hT
  · have e : i = ys.length := by omega
    subst e
    exact .inl ⟨⟨xs, ys, qx, qy, Or.inr (Nat.le_refl _)⟩, hd H p⟩
def ltAt (ds : List PyData) (j : Nat) : Bool := match ds[j]?, ds[j + 1]? with
  | some (.int a), some (.int b) => decide (a < b)
  | _, _ => false
/-- each less than the next one -/
def rise (ds : List PyData) : Bool := (List.range (ds.length - 1)).all (ltAt ds)
def isParD (many : Int) : PyData → Bool
  | .tuple ds => ds.all (isNumD many) && rise ds
  | _ => false
def isLoopD (number : Int) : PyData → Bool
  | .tuple [a, b] => isThrD a && isParD number b
  | _ => false
def spPar (K : PySem.W.Frag) : Sp := fun vs H Q _ => ∃ (v : V) (d : PyData) (many : Int), vs = [v, .int many] ∧ Dp K H v d ∧ tame d = true ∧ ∀ H', Same H H' → Q (.bl (isParD many d)) H'
def spLoop (K : PySem.W.Frag) : Sp := fun vs H Q _ => ∃ (v : V) (d : PyData) (many : Int), vs = [v, .int many] ∧ Dp K H v d ∧ tame d = true ∧ d.canLay0 = true ∧ ∀ H', Same H H' → Q (.bl (isLoopD many d)) H'
theorem par_no {many : Int} {d : PyData} (e : isK d "tuple" = false) : isParD many d = false := by
  cases d <;> first | rfl | exact absurd (show isK (.tuple []) "tuple" = false from e) (by decide +kernel)
theorem loop_no {many : Int} {d : PyData} (e : isK d "tuple" = false) : isLoopD many d = false := by
  cases d <;> first | rfl | exact absurd (show isK (.tuple []) "tuple" = false from e) (by decide +kernel)
section
variable {P : Program} {w : World} {K : PySem.W.Frag} {mg : Str → Option Value} {base : Heap}
abbrev sPar : Stmt := top 13
theorem scPar : FnScope ["value", "many", "one", "other", "parent"] ["value", "many"] (defScope sPar) := ⟨rfl, rfl, rfl, by decide +kernel, rfl, by decide +kernel, by decide +kernel⟩
theorem ok_Par {f : Addr} {fd : FuncData} (F : Fun K "is_parents" "is_parents" sPar f fd) (B : Bl mg) {fn : Addr} {fdn : FuncData} (Gn : FnOk P w K mg base CX0 2 fn fdn ["value", "many"] (spNum K)) (gn : mg "is_number" = some (.ref fn)) (kn : PySem.W.keepIn K (.ref fn) = true) (bn : Binds K fdn ["value", "many"] []) : FnOk P w K mg base CX0 3 f fd ["value", "many"] (spPar K) := by
  refine F.ok scPar (fun vs H Q E h => ?_) (fun cdv A outer s H vs Q E hr h => ?_)
  · obtain ⟨v, d, many, rfl, _⟩ := h
    rfl
  · obtain ⟨v, d, many, rfl, h1, tm, k⟩ := h
    refine ⟨_, pss_cons (ps_if (pt_not (pt_val (pe_callB call_isi (by rfl) (B "isinstance" (by decide)) (by decide +kernel) (pa_cons (pv 0) (pa_cons (pe_bltn (v := .ty "tuple") rfl (B "tuple" (by decide)) (by decide +kernel) rfl) pa_nil))))) (pss_one (ps_ret pe_bl)) pss_nil)
      (pss_cons (ps_if (pt_not (pt_val (pe_callB (cr_all rfl) (by rfl) (B "all" (by decide)) (by decide +kernel) (pa_cons (pe_lc (own := [("parent", 4)]) (g := gName 4) (tt := tYes) rfl scPar.nd (pi_tup (pv 0)) (blkOk_by (N := ["value", "many", "one", "other", "parent"]) (sc := defScope sPar) (by decide +kernel)) (fun _ _ _ _ _ => pg_name (i := 4) scPar.nd rfl (Or.inl rfl)) (fun _ _ _ _ _ => pts_nil) (fun _ _ _ _ _ => pe_call (E := E0) Gn (hr.mono (by decide)) rfl gn kn bn .nil pass0 (pa_cons (pv 4) (pa_cons (pv 1) pa_nil)))) pa_nil)))) (pss_one (ps_ret pe_bl)) pss_nil)
      (pss_one (ps_ret (pe_callB (cr_all rfl) (by rfl) (B "all" (by decide)) (by decide +kernel) (pa_cons (pe_lc (own := [("one", 2), ("other", 3)]) (g := gTup K 2 (gCons (gName 2) (gCons (gName 3) gNil))) (tt := tYes) rfl scPar.nd (RZ.pi_zipA (by rfl) (B "zip" (by decide)) (pa_cons (pv 0) (pa_cons (pe_slice sl_tupA (pv 0) (po_some pe_int) po_none) pa_nil))) (blkOk_by (N := ["value", "many", "one", "other", "parent"]) (sc := defScope sPar) (by decide +kernel)) (fun _ _ _ _ _ => pg_tup rfl (pgs_cons (pg_name (i := 2) scPar.nd rfl (Or.inl rfl)) (pgs_cons (pg_name (i := 3) scPar.nd rfl (Or.inl rfl)) pgs_nil))) (fun _ _ _ _ _ => pts_nil) (fun _ _ _ _ _ => pe_cmpR op_lt (pv 2) (pv 3) (nomark _))) pa_nil))))), ?_⟩
    refine ⟨_, rfl, _, _, _, _, _, rfl, .ty "tuple", dp_ty h1, kit_d h1 "tuple" (by decide), _, rfl, ?_⟩
    cases e : isK d "tuple" with
    | false =>
      refine LK.ifT rfl ?_
      have := k H (Same.refl H)
      rwa [par_no e] at this
    | true =>
      obtain ⟨a, xs, ds, rfl, rfl, hs, hd⟩ := tup_of h1 e
      have ln : ds.length ≤ 1000 := by
        rw [tame, Bool.and_eq_true] at tm
        exact of_decide_eq_true tm.1
      have xl := dps_len hd
      refine LK.ifF rfl ⟨_, rfl, a, rfl, ⟨xs, hs⟩, fun D nD => ?_⟩
      refine lc_tup (K := K) (a := a) (xs := xs) (fun j H' => H' D = some (.lst (((ds.take j).map (isNumD many)).map V.bl)) ∧ Same H H') ⟨upd_same, same_new nD⟩ (fun i H' hi hh => same_tup hh.2 hs) (fun j x H' hx hh => ⟨rfl, ?_⟩) (fun H' hh => ?_)
      · obtain ⟨hD, s1⟩ := hh
        obtain ⟨x', d, hx', hd', dx⟩ := dps_at hd (i := j) (by rw [← xl]; exact (List.getElem?_eq_some_iff.mp hx).1)
        obtain rfl : x = x' := by
          rw [hx] at hx'
          exact Option.some.inj hx'
        refine ⟨_, rfl, _, rfl, x, d, many, rfl, dp_same s1 dx, fun H2 s4 => ⟨_, s4 _ _ hD, ?_, ?_, fun b o eb => ?_⟩⟩
        · rw [List.length_map, List.length_map, List.length_take]
          exact Nat.lt_of_lt_of_le (by omega : _ < 2000) (by decide)
        · rw [upd_same, List.take_succ, hd', List.map_append, List.map_append]
          rfl
        · rw [upd_ne (ne_of_none eb nD)]
          exact s4 b o (s1 b o eb)
      · obtain ⟨hD, s1⟩ := hh
        rw [xl, List.take_length] at hD
        refine ⟨D, _, rfl, SqL.of hD, _, rfl, ?_⟩
        rw [List.all_map]
        show (fun b H1 => if b = true then _ else _) (!(ds.all (isNumD many))) H'
        cases e1 : ds.all (isNumD many) with
        | false =>
          refine LK.ifT rfl ?_
          have := k H' s1
          rw [isParD, e1, Bool.false_and] at this
          exact this
        | true =>
          refine LK.ifF rfl ?_
          have s1' := s1
          obtain ⟨ns, n1, n2⟩ := nums_take (many := many) (k := ds.length) hd fun j hj d e => List.all_eq_true.mp e1 d (List.mem_of_getElem? e)
          rw [List.take_length] at n2
          rw [← xl, List.take_length] at n1
          subst n1
          subst n2
          refine ⟨_, rfl, _, rfl, 1, rfl, a, _, rfl, same_tup s1 hs, fun hw => ?_, fun hw p np => ?_⟩
          · have n0 : ns = [] := by
              have := hw.1
              rw [show HT.sIx (ns.map V.int).length 0 (some 1) = min 1 (ns.map V.int).length from HT.sIx_nat _ _ 1, List.length_map] at this
              exact List.length_eq_zero_iff.mp (by omega)
            have s2 := s1
            have hb : SqT K H' a ((ns.map V.int).drop 1) := by
              subst n0
              exact same_tup s1 hs
            refine ⟨a, a, _, _, rfl, .inr ⟨same_tup s2 hs, hb, fun D2 nD2 => ?_⟩⟩
            refine lc_zipT (K := K) (xs := ns.map V.int) (ys := (ns.map V.int).drop 1) (by rw [List.length_drop]; omega) (fun j H' => H' D2 = some (.lst (((List.range j).map (ltAt (ns.map PyData.int))).map V.bl)) ∧ Same H H' ∧ SqT K H' a ((ns.map V.int).drop 1)) ⟨upd_same, fun b o e => same_new nD2 b o (s2 b o e), same_tup (same_new nD2) hb⟩ (fun j H' hh => ⟨same_tup hh.2.1 hs, hh.2.2⟩) (fun j x y T H2 hx hy hh nT => ?_) (fun H2 hh => ?_)
            · obtain ⟨hD2, s3, hb3⟩ := hh
              rw [List.getElem?_drop, List.getElem?_map] at hy
              rw [List.getElem?_map] at hx
              obtain ⟨p1, q1, rfl⟩ := Option.map_eq_some_iff.mp hx
              obtain ⟨p2, q2, rfl⟩ := Option.map_eq_some_iff.mp hy
              rw [Nat.add_comm] at q2
              have s4 := same_new (o := .tup [.int p1, .int p2]) nT
              have jl : j < ns.length := (List.getElem?_eq_some_iff.mp q1).1
              have lt : ltAt (ns.map PyData.int) j = decide (p1 < p2) := by
                unfold ltAt
                rw [List.getElem?_map, List.getElem?_map, q1, q2]
                rfl
              have nl : ns.length ≤ 1000 := by
                rw [List.length_map] at ln
                exact ln
              have e2 := s4 _ _ hD2
              refine ⟨T, _, rfl, .inl (.inl upd_same), rfl, _, _, rfl, _, _, rfl, rfl, rfl, ?_⟩
              refine ⟨_, rfl, _, rfl, p1, p2, rfl, rfl, _, e2, ?_, ?_, fun b o eb => ?_, ?_⟩
              · rw [List.length_map, List.length_map, List.length_range]
                exact Nat.lt_of_lt_of_le (by omega : _ < 2000) (by decide)
              · rw [upd_same, List.range_succ, List.map_append, List.map_append]
                show _ = some (HO.lst (_ ++ [V.bl (ltAt (ns.map PyData.int) j)]))
                rw [lt]
              · by_cases eD : b = D2
                · subst eD
                  exact absurd (s2 _ _ eb) (by rw [nD2]; exact fun z => nomatch z)
                · rw [upd_ne eD]
                  exact s4 b o (s3 b o eb)
              · exact sqT_tk (Tk.own e2) (same_tup s4 hb3)
            · obtain ⟨hD2, s3, hb3⟩ := hh
              refine ⟨D2, _, rfl, SqL.of hD2, ?_⟩
              have := k H2 s3
              rw [isParD, e1, Bool.true_and, rise] at this
              rw [List.all_map]
              rw [List.length_map] at this
              rw [List.length_drop, List.length_map]
              exact this
          · have s2 : Same H (L2.upd H' p (.tup (cutV (ns.map V.int) (some 1) none))) := fun b o e => same_new (o := .tup (cutV (ns.map V.int) (some 1) none)) np b o (s1 b o e)
            have cd : cutV (ns.map V.int) (some 1) none = (ns.map V.int).drop 1 := by
              unfold cutV
              rw [show HT.sIx (ns.map V.int).length 0 (some 1) = min 1 (ns.map V.int).length from HT.sIx_nat _ _ 1, HT.sIx_none]
              cases ns with
              | nil => rfl
              | cons n r =>
                rw [show min 1 ((n :: r).map V.int).length = 1 by simp]
                exact List.take_of_length_le (by simp)
            have hb : SqT K (L2.upd H' p (.tup (cutV (ns.map V.int) (some 1) none))) p ((ns.map V.int).drop 1) := by
              refine .inl (.inl ?_)
              rw [upd_same, cd]
            refine ⟨a, p, _, _, rfl, .inr ⟨same_tup s2 hs, hb, fun D2 nD2 => ?_⟩⟩
            refine lc_zipT (K := K) (xs := ns.map V.int) (ys := (ns.map V.int).drop 1) (by rw [List.length_drop]; omega) (fun j H' => H' D2 = some (.lst (((List.range j).map (ltAt (ns.map PyData.int))).map V.bl)) ∧ Same H H' ∧ SqT K H' p ((ns.map V.int).drop 1)) ⟨upd_same, fun b o e => same_new nD2 b o (s2 b o e), same_tup (same_new nD2) hb⟩ (fun j H' hh => ⟨same_tup hh.2.1 hs, hh.2.2⟩) (fun j x y T H2 hx hy hh nT => ?_) (fun H2 hh => ?_)
            · obtain ⟨hD2, s3, hb3⟩ := hh
              rw [List.getElem?_drop, List.getElem?_map] at hy
              rw [List.getElem?_map] at hx
              obtain ⟨p1, q1, rfl⟩ := Option.map_eq_some_iff.mp hx
              obtain ⟨p2, q2, rfl⟩ := Option.map_eq_some_iff.mp hy
              rw [Nat.add_comm] at q2
              have s4 := same_new (o := .tup [.int p1, .int p2]) nT
              have jl : j < ns.length := (List.getElem?_eq_some_iff.mp q1).1
              have lt : ltAt (ns.map PyData.int) j = decide (p1 < p2) := by
                unfold ltAt
                rw [List.getElem?_map, List.getElem?_map, q1, q2]
                rfl
              have nl : ns.length ≤ 1000 := by
                rw [List.length_map] at ln
                exact ln
              have e2 := s4 _ _ hD2
              refine ⟨T, _, rfl, .inl (.inl upd_same), rfl, _, _, rfl, _, _, rfl, rfl, rfl, ?_⟩
              refine ⟨_, rfl, _, rfl, p1, p2, rfl, rfl, _, e2, ?_, ?_, fun b o eb => ?_, ?_⟩
              · rw [List.length_map, List.length_map, List.length_range]
                exact Nat.lt_of_lt_of_le (by omega : _ < 2000) (by decide)
              · rw [upd_same, List.range_succ, List.map_append, List.map_append]
                show _ = some (HO.lst (_ ++ [V.bl (ltAt (ns.map PyData.int) j)]))
                rw [lt]
              · by_cases eD : b = D2
                · subst eD
                  exact absurd (s2 _ _ eb) (by rw [nD2]; exact fun z => nomatch z)
                · rw [upd_ne eD]
                  exact s4 b o (s3 b o eb)
              · exact sqT_tk (Tk.own e2) (same_tup s4 hb3)
            · obtain ⟨hD2, s3, hb3⟩ := hh
              refine ⟨D2, _, rfl, SqL.of hD2, ?_⟩
              have := k H2 s3
              rw [isParD, e1, Bool.true_and, rise] at this
              rw [List.all_map]
              rw [List.length_map] at this
              rw [List.length_drop, List.length_map]
              exact this
end
end K1
namespace K1
open PySem PySem.Spec PyProof.Rows L2 LK RZ
theorem lay_mem : ∀ {ds : List PyData} {d : PyData}, PyData.canLayAll0 ds = true → d ∈ ds → d.canLay0 = true
  | x :: r, d, h, e => by
    rw [PyData.canLayAll0, Bool.and_eq_true] at h
    rcases List.mem_cons.mp e with rfl | e
    · exact h.1
    · exact lay_mem h.2 e
theorem loop_two {number : Int} {ds : List PyData} (h : ds.length ≠ 2) : isLoopD number (.tuple ds) = false := by
  match ds, h with
  | [], _ => rfl
  | [_], _ => rfl
  | [_, _], h => exact absurd rfl h
  | _ :: _ :: _ :: _, _ => rfl
theorem dps_two {K : PySem.W.Frag} {H : Hp} {xs : List V} {ds : List PyData} (h : DpAll K H xs ds) (l : ds.length = 2) : ∃ x y d e, xs = [x, y] ∧ ds = [d, e] ∧ Dp K H x d ∧ Dp K H y e := by
  cases h with
  | nil => cases l
  | cons a r =>
    cases r with
    | nil => cases l
    | cons b r =>
      cases r with
      | nil => exact ⟨_, _, _, _, rfl, rfl, a, b⟩
      | cons _ _ => simp at l
section
variable {P : Program} {w : World} {K : PySem.W.Frag} {mg : Str → Option Value} {base : Heap}
abbrev sIsLoop : Stmt := top 14
theorem scIsLoop : FnScope ["value", "number", "thread", "parents"] ["value", "number"] (defScope sIsLoop) := ⟨rfl, rfl, rfl, by decide +kernel, rfl, by decide +kernel, by decide +kernel⟩
theorem ok_IsLoop {f : Addr} {fd : FuncData} (F : Fun K "is_loop" "is_loop" sIsLoop f fd) (B : Bl mg) {ft : Addr} {fdt : FuncData} (Gt : FnOk P w K mg base CX0 1 ft fdt ["value"] (spThr K)) (gt : mg "is_thread" = some (.ref ft)) (kt : PySem.W.keepIn K (.ref ft) = true) (bt : Binds K fdt ["value"] []) {fp : Addr} {fdp : FuncData} (Gp : FnOk P w K mg base CX0 3 fp fdp ["value", "many"] (spPar K)) (gp : mg "is_parents" = some (.ref fp)) (kp : PySem.W.keepIn K (.ref fp) = true) (bp : Binds K fdp ["value", "many"] []) : FnOk P w K mg base CX0 4 f fd ["value", "number"] (spLoop K) := by
  refine F.ok scIsLoop (fun vs H Q E h => ?_) (fun cdv A outer s H vs Q E hr h => ?_)
  · obtain ⟨v, d, many, rfl, _⟩ := h
    rfl
  · obtain ⟨v, d, many, rfl, h1, tm, lay, k⟩ := h
    refine ⟨_, pss_cons (ps_if (PW.pt (pw_or (pt_not (pt_val (pe_callB call_isi (by rfl) (B "isinstance" (by decide)) (by decide +kernel) (pa_cons (pv 0) (pa_cons (pe_bltn (v := .ty "tuple") rfl (B "tuple" (by decide)) (by decide +kernel) rfl) pa_nil))))) (pw_or1 (pt_cmpR op_ne (pe_callB call_len_seq (by rfl) (B "len" (by decide)) (by decide +kernel) (pa_cons (pv 0) pa_nil)) pe_int (nomark _))))) (pss_one (ps_ret pe_bl)) pss_nil)
      (pss_cons (ps_asg (pv 0) (pg_tup rfl (pgs_cons (pg_name (i := 2) scIsLoop.nd rfl (Or.inl rfl)) (pgs_cons (pg_name (i := 3) scIsLoop.nd rfl (Or.inl rfl)) pgs_nil))))
      (pss_one (ps_ret (pe_and (pe_call (E := E0) Gt (hr.mono (by decide)) rfl gt kt bt .nil pass0 (pa_cons (pv 2) pa_nil)) (pe_one (pe_call (E := E0) Gp (hr.mono (by decide)) rfl gp kp bp .nil pass0 (pa_cons (pv 3) (pa_cons (pv 1) pa_nil)))))))), ?_⟩
    refine ⟨_, rfl, _, _, _, _, _, rfl, .ty "tuple", dp_ty h1, kit_d h1 "tuple" (by decide), _, rfl, ?_⟩
    have kk := k H (Same.refl H)
    cases e : isK d "tuple" with
    | false =>
      refine LK.ifT rfl (LK.ifT rfl ?_)
      rwa [loop_no e] at kk
    | true =>
      obtain ⟨a, xs, ds, rfl, rfl, hs, hd⟩ := tup_of h1 e
      rw [tame, Bool.and_eq_true] at tm
      have xl := dps_len hd
      have lay' : PyData.canLayAll0 ds = true := by simpa only [PyData.canLay0] using lay
      refine LK.ifF rfl ⟨_, rfl, a, xs, rfl, .inr hs, rfl, _, rfl, ?_⟩
      by_cases l2 : ds.length = 2
      · refine LK.ifF ?_ ?_
        · rw [xl, l2]
          decide
        obtain ⟨x, y, d1, d2, rfl, rfl, hx, hy⟩ := dps_two hd l2
        refine ⟨_, rfl, a, _, rfl, hs, rfl, _, _, rfl, _, _, rfl, rfl, ?_⟩
        have m1 : d1 ∈ [d1, d2] := by simp
        have m2 : d2 ∈ [d1, d2] := by simp
        refine ⟨_, rfl, x, d1, rfl, hx, tame_mem tm.2 m1, lay_mem lay' m1, fun H1 s1 => ⟨_, rfl, ?_⟩⟩
        cases e1 : isThrD d1 with
        | false =>
          refine LK.ifF rfl ?_
          have := k H1 s1
          rwa [isLoopD, e1, Bool.false_and] at this
        | true =>
          refine LK.ifT rfl ⟨_, rfl, _, rfl, y, d2, many, rfl, dp_same s1 hy, tame_mem tm.2 m2, fun H2 s2 => ?_⟩
          have := k H2 (fun b o e => s2 b o (s1 b o e))
          rwa [isLoopD, e1, Bool.true_and] at this
      · refine LK.ifT ?_ ?_
        · rw [xl]
          have : ¬ V.int (ds.length : Nat) = V.int 2 := fun z => by
            have := V.int.inj z
            omega
          simp [this]
        · rwa [loop_two l2] at kk
end
end K1
namespace K1
open PySem PySem.Spec PyProof.Rows L2 LK RZ
def loopBad (ds : List PyData) (k : Nat) : Bool := match ds[k]? with
  | some d => !isLoopD k d
  | none => false
def loopsFault : PyData → Option Int
  | .list ds => ((List.range ds.length).find? (loopBad ds)).map fun k : Nat => (k : Int)
  | _ => some (-1)
def spLoops (K : PySem.W.Frag) : Sp := fun vs H Q _ => ∃ (v : V) (d : PyData), vs = [v] ∧ Dp K H v d ∧ tame d = true ∧ d.canLay0 = true ∧ d.depth ≤ 50 ∧ ∀ H', Same H H' → Q (optV (loopsFault d)) H'
theorem loops_no {d : PyData} (e : isK d "list" = false) : loopsFault d = some (-1) := by
  cases d <;> first | rfl | exact absurd (show isK (.list []) "list" = false from e) (by decide +kernel)
theorem loopBad_at {ds : List PyData} {k : Nat} {d : PyData} (e : ds[k]? = some d) : loopBad ds k = !isLoopD k d := by
  unfold loopBad
  rw [e]
theorem thr_str {d : PyData} (h : isThrD d = true) : ∃ z, d = .str z := by
  cases d <;> first | exact ⟨_, rfl⟩ | exact absurd h (by simp [isThrD])
theorem depth_mem : ∀ {ds : List PyData} {d : PyData}, d ∈ ds → d.depth ≤ PyData.depthAll ds
  | x :: r, d, e => by
    simp only [PyData.depthAll]
    rcases List.mem_cons.mp e with rfl | e
    · omega
    · have := depth_mem e
      omega
theorem lay_filter (f : PyData → Bool) : ∀ {ds : List PyData}, PyData.canLayAll0 ds = true → PyData.canLayAll0 (ds.filter f) = true ∧ PyData.depthAll (ds.filter f) ≤ PyData.depthAll ds
  | [], _ => ⟨rfl, Nat.le_refl _⟩
  | x :: r, h => by
    rw [PyData.canLayAll0, Bool.and_eq_true] at h
    obtain ⟨a, b⟩ := lay_filter f h.2
    rw [List.filter_cons]
    split
    · constructor
      · rw [PyData.canLayAll0, h.1, a]
        rfl
      · simp only [PyData.depthAll]
        omega
    · refine ⟨a, ?_⟩
      simp only [PyData.depthAll]
      omega
theorem eqv_nilg (es : List PyData) : PyData.eqv (.list es) (.list []) = es.isEmpty := by
  cases es with
  | nil => rfl
  | cons y r => rfl
section
variable {P : Program} {w : World} {K : PySem.W.Frag} {mg : Str → Option Value} {base : Heap}
abbrev sLps : Stmt := top 29
theorem scLps : FnScope ["thing", "k", "item", "spots", "one", "j"] ["thing"] (defScope sLps) := ⟨rfl, rfl, rfl, by decide +kernel, rfl, by decide +kernel, by decide +kernel⟩
theorem ok_Lps {f : Addr} {fd : FuncData} (F : Fun K "_law_loops_fault" "_law_loops_fault" sLps f fd) (B : Bl mg) {fs : Addr} {fds : FuncData} (Gs : FnOk P w K mg base CX0 1 fs fds ["count", "thing"] (spSpot K)) (gs : mg "_law_is_spot" = some (.ref fs)) (ks : PySem.W.keepIn K (.ref fs) = true) (bs : Binds K fds ["count", "thing"] []) {fyn : Addr} {fdyn : FuncData} (Gyn : FnOk P w K mg base CX0 1 fyn fdyn ["thing"] (spThr K)) (gyn : mg "_law_is_yarn" = some (.ref fyn)) (kyn : PySem.W.keepIn K (.ref fyn) = true) (byn : Binds K fdyn ["thing"] []) : FnOk P w K mg base CX0 2 f fd ["thing"] (spLoops K) := by
  refine F.ok scLps (fun vs H Q E h => ?_) (fun cdv A outer s H vs Q E hr h => ?_)
  · obtain ⟨v, d, rfl, _⟩ := h
    rfl
  · obtain ⟨v, d, rfl, h1, tm, lay, dp, k⟩ := h
    refine ⟨_, pss_cons (ps_if (pt_not (pt_val (pe_callB call_isi (by rfl) (B "isinstance" (by decide)) (by decide +kernel) (pa_cons (pv 0) (pa_cons (pe_bltn (v := .ty "list") rfl (B "list" (by decide)) (by decide +kernel) rfl) pa_nil))))) (pss_one (ps_ret (pe_un un_neg pe_int))) pss_nil)
      (pss_cons (ps_for PassesOwn.never rfl (pi_range1 (by rfl) (B "range" (by decide)) (pa_cons (pe_callB call_len_seq (by rfl) (B "len" (by decide)) (by decide +kernel) (pa_cons (pv 0) pa_nil)) pa_nil)) (pg_name (i := 1) scLps.nd rfl (Or.inr rfl)) (pss_cons (ps_set (i := 2) scLps.nd rfl (Or.inl rfl) (pe_ix ix_list (pv 0) (pv 1) (fun _ _ => rfl)))
      (pss_cons (ps_if (PW.pt (pw_or (pt_not (pt_val (pe_callB call_isi (by rfl) (B "isinstance" (by decide)) (by decide +kernel) (pa_cons (pv 2) (pa_cons (pe_bltn (v := .ty "tuple") rfl (B "tuple" (by decide)) (by decide +kernel) rfl) pa_nil))))) (pw_or (pt_cmpR op_ne (pe_callB call_len_seq (by rfl) (B "len" (by decide)) (by decide +kernel) (pa_cons (pv 2) pa_nil)) pe_int (nomark _)) (pw_or (pt_not (pt_val (pe_call (E := E0) Gyn (hr.mono (by decide)) rfl gyn kyn byn .nil pass0 (pa_cons (pe_ix ix_tup (pv 2) pe_int (fun _ _ => rfl)) pa_nil)))) (pw_or1 (pt_not (pt_val (pe_callB call_isi (by rfl) (B "isinstance" (by decide)) (by decide +kernel) (pa_cons (pe_ix ix_tup (pv 2) pe_int (fun _ _ => rfl)) (pa_cons (pe_bltn (v := .ty "tuple") rfl (B "tuple" (by decide)) (by decide +kernel) rfl) pa_nil)))))))))) (pss_one (ps_ret (pv 1))) pss_nil)
      (pss_cons (ps_set (i := 3) scLps.nd rfl (Or.inr rfl) (pe_callTy call_list_of (by rfl) (B "list" (by decide)) (by decide +kernel) (pa_cons (pe_ix ix_tup (pv 2) pe_int (fun _ _ => rfl)) pa_nil)))
      (pss_cons (ps_if (pt_cmpR (op_neD hr.units) (pe_lc (own := [("one", 4)]) (g := gName 4) rfl scLps.nd (pi_list (pv 3)) (blkOk_by (N := ["thing", "k", "item", "spots", "one", "j"]) (sc := defScope sLps) (by decide +kernel)) (fun _ _ _ _ _ => pg_name (i := 4) scLps.nd rfl (Or.inl rfl)) (fun _ _ _ _ _ => pts_one (pt_not (pt_val (pe_call (E := E0) Gs (hr.mono (by decide)) rfl gs ks bs .nil pass0 (pa_cons (pv 1) (pa_cons (pv 4) pa_nil)))))) (fun _ _ _ _ _ => pv 4)) (pe_lst pa_nil) (nomark _)) (pss_one (ps_ret (pv 1))) pss_nil)
      (pss_one (ps_if (pt_cmpR (op_neD hr.units) (pe_lc (own := [("j", 5)]) (g := gName 5) rfl scLps.nd (pi_range2 (by rfl) (B "range" (by decide)) (pa_cons pe_int (pa_cons (pe_callB call_len_seq (by rfl) (B "len" (by decide)) (by decide +kernel) (pa_cons (pv 3) pa_nil)) pa_nil))) (blkOk_by (N := ["thing", "k", "item", "spots", "one", "j"]) (sc := defScope sLps) (by decide +kernel)) (fun _ _ _ _ _ => pg_name (i := 5) scLps.nd rfl (Or.inl rfl)) (fun _ _ _ _ _ => pts_one (pt_cmpR op_ge (pe_ix (ixl (K := K)) (pv 3) (pe_op op_sub (pv 5) pe_int) (fun _ _ => rfl)) (pe_ix (ixl (K := K)) (pv 3) (pv 5) (fun _ _ => rfl)) (nomark _))) (fun _ _ _ _ _ => pv 5)) (pe_lst pa_nil) (nomark _)) (pss_one (ps_ret (pv 1))) pss_nil)))))))
      (pss_one (ps_ret pe_non))), ?_⟩
    refine ⟨_, rfl, _, _, _, _, _, rfl, .ty "list", dp_ty h1, kit_d h1 "list" (by decide), _, rfl, ?_⟩
    cases e : isK d "list" with
    | false =>
      refine LK.ifT rfl ⟨1, rfl, ?_⟩
      have := k H (Same.refl H)
      rwa [loops_no e] at this
    | true =>
      obtain ⟨a, xs, ds, rfl, rfl, hs, hd⟩ := list_of h1 e
      rw [tame, Bool.and_eq_true] at tm
      have ln : ds.length ≤ 1000 := of_decide_eq_true tm.1
      have lay' : PyData.canLayAll0 ds = true := by simpa only [PyData.canLay0] using lay
      have dp' : PyData.depthAll ds ≤ 50 := by
        simp only [PyData.depth] at dp
        omega
      have xl := dps_len hd
      refine LK.ifF rfl ⟨_, rfl, a, xs, rfl, .inl hs, _, rfl, by omega, by omega, ?_⟩
      refine for_range (lo := 0) (n := xs.length) (fun i σ H' => ∃ (o1 o2 o3 : Option V), σ = [some (.ref a), o1, o2, o3, none, none] ∧ (∀ k < i, loopBad ds k = false) ∧ Same H H')
        ⟨_, _, _, rfl, fun k h => absurd h (Nat.not_lt_zero _), Same.refl H⟩ (fun i σ H' il hI => ?_) (fun σ H' hI => ?_)
      · obtain ⟨o1, o2, o3, rfl, hb, s1⟩ := hI
        have iz : (0 + (i : Int)) = (i : Int) := Int.zero_add _
        obtain ⟨x, d, hx, hd', dx⟩ := dps_at hd (i := i) (by omega)
        have dm : d ∈ ds := List.mem_of_getElem? hd'
        have tmd := tame_mem tm.2 dm
        have layd := lay_mem lay' dm
        have dpd := depth_mem dm
        have at1 : atI xs (0 + (i : Int)) = some x := by
          rw [iz]
          exact atI_nat hx
        have bad : ∀ H2, Same H H2 → isLoopD i d = false → Q (.int (0 + (i : Int))) H2 := fun H2 s2 e => by
          have := k H2 s2
          rw [loopsFault, find_at (by omega) hb (by rw [loopBad_at hd', e]; rfl)] at this
          rw [iz]
          exact this
        refine ⟨_, rfl, _, rfl, a, xs, _, x, rfl, rfl, s1.seq hs, at1, ?_⟩
        have dx1 := dp_same s1 dx
        refine ⟨_, rfl, _, _, _, _, _, rfl, .ty "tuple", dp_ty dx1, kit_d dx1 "tuple" (by decide), _, rfl, ?_⟩
        cases e1 : isK d "tuple" with
        | false => exact LK.ifT rfl (LK.ifT rfl ⟨_, rfl, bad _ s1 (loop_no e1)⟩)
        | true =>
        obtain ⟨b, ys, ds2, rfl, rfl, hs2, hd2⟩ := tup_of dx e1
        rw [tame, Bool.and_eq_true] at tmd
        have layd' : PyData.canLayAll0 ds2 = true := by simpa only [PyData.canLay0] using layd
        have dpd' : PyData.depthAll ds2 ≤ 50 := by
          simp only [PyData.depth] at dpd
          omega
        have yl := dps_len hd2
        refine LK.ifF rfl ⟨_, rfl, b, ys, rfl, .inr (same_tup s1 hs2), rfl, _, rfl, ?_⟩
        by_cases l2 : ds2.length = 2
        case neg =>
          refine LK.ifT ?_ (LK.ifT rfl ⟨_, rfl, bad _ s1 (loop_two l2)⟩)
          rw [yl]
          have : ¬ V.int (ds2.length : Nat) = V.int 2 := fun z => by
            have := V.int.inj z
            omega
          simp [this]
        case pos =>
        refine LK.ifF ?_ ?_
        · rw [yl, l2]
          decide
        obtain ⟨x1, x2, d1, d2, rfl, rfl, hx1, hx2⟩ := dps_two hd2 l2
        have m1 : d1 ∈ [d1, d2] := by simp
        have m2 : d2 ∈ [d1, d2] := by simp
        refine ⟨_, rfl, b, _, 0, x1, rfl, rfl, same_tup s1 hs2, rfl, x1, d1, rfl, dp_same s1 hx1, tame_mem tmd.2 m1, lay_mem layd' m1, fun H2 s2 => ⟨_, rfl, ?_⟩⟩
        have s3 : Same H H2 := fun b o e => s2 b o (s1 b o e)
        cases e2 : isThrD d1 with
        | false => exact LK.ifT rfl (LK.ifT rfl ⟨_, rfl, bad _ s3 (by rw [isLoopD, e2]; rfl)⟩)
        | true =>
        have hx2' := dp_same s3 hx2
        refine LK.ifF rfl ⟨_, rfl, b, _, 1, x2, rfl, rfl, same_tup s3 hs2, rfl, _, _, _, _, _, rfl, .ty "tuple", dp_ty hx2', kit_d hx2' "tuple" (by decide), _, rfl, ?_⟩
        have lb : isLoopD i (.tuple [d1, d2]) = isParD i d2 := by rw [isLoopD, e2, Bool.true_and]
        cases e3 : isK d2 "tuple" with
        | false => exact LK.ifT rfl ⟨_, rfl, bad _ s3 (by rw [lb, par_no e3])⟩
        | true =>
        obtain ⟨c, zs, ds3, rfl, rfl, hs3, hd3⟩ := tup_of hx2 e3
        have tm3 := tame_mem tmd.2 m2
        rw [tame, Bool.and_eq_true] at tm3
        have ln3 : ds3.length ≤ 1000 := of_decide_eq_true tm3.1
        have lay3 := lay_mem layd' m2
        have lay3' : PyData.canLayAll0 ds3 = true := by simpa only [PyData.canLay0] using lay3
        have dp3 := depth_mem (d := .tuple ds3) m2
        have dp3' : PyData.depthAll ds3 ≤ 50 := by
          simp only [PyData.depth] at dp3
          omega
        have zl := dps_len hd3
        refine LK.ifF rfl ?_
        refine ⟨_, rfl, b, _, 1, _, rfl, rfl, same_tup s3 hs2, rfl, c, zs, rfl, .inr (same_tup s3 hs3), fun L nL => ?_⟩
        have s4 : Same H (L2.upd H2 L (.lst zs)) := fun b o e => same_new (o := .lst zs) nL b o (s3 b o e)
        have hL : (L2.upd H2 L (.lst zs)) L = some (.lst zs) := upd_same
        generalize L2.upd H2 L (.lst zs) = H3 at s4 hL ⊢
        refine ⟨_, rfl, L, rfl, ⟨_, SqL.of hL⟩, fun D nD => ?_⟩
        refine lc_list (K := K) (a := L) (xs := zs) (fun j H' => (∃ us, H' D = some (.lst us) ∧ us.length ≤ j ∧ DpAll K H us ((ds3.take j).filter fun d => !isNumD i d)) ∧ Same H3 H') ⟨⟨[], upd_same, Nat.zero_le _, .nil⟩, same_new nD⟩ (fun j H' hj hh => hh.2.seq (SqL.of hL)) (fun j x H' hx hh => ⟨rfl, ?_⟩) (fun H' hh => ?_)
        · obtain ⟨⟨us, hD, ul, hu⟩, s5⟩ := hh
          obtain ⟨x', d, hx', hd', dx3⟩ := dps_at hd3 (i := j) (by rw [← zl]; exact (List.getElem?_eq_some_iff.mp hx).1)
          obtain rfl : x = x' := by
            rw [hx] at hx'
            exact Option.some.inj hx'
          have s6 : Same H H' := fun b o e => s5 b o (s4 b o e)
          have jl := (List.getElem?_eq_some_iff.mp hx).1
          refine ⟨_, rfl, _, rfl, x, d, _, rfl, dp_same s6 dx3, fun H4 s7 => ⟨_, rfl, ?_⟩⟩
          rw [iz, List.take_succ, hd', List.filter_append]
          cases e4 : isNumD i d with
          | true =>
            refine LK.ifF rfl ⟨⟨us, s7 _ _ hD, by omega, ?_⟩, fun b o e => s7 b o (s5 b o e)⟩
            have : List.filter (fun d => !isNumD i d) (some d).toList = [] := by simp [e4]
            rw [this, List.append_nil]
            exact hu
          | false =>
            refine LK.ifT rfl ⟨_, rfl, us, s7 _ _ hD, Nat.lt_of_lt_of_le (by omega : us.length < 2000) (by decide), ⟨us ++ [x], upd_same, ?_, ?_⟩, fun b o e => ?_⟩
            · rw [List.length_append]
              simp only [List.length_singleton]
              omega
            · have : List.filter (fun d => !isNumD i d) (some d).toList = [d] := by simp [e4]
              rw [this]
              exact dps_app hu (.cons dx3 .nil)
            · rw [upd_ne (ne_of_none e nD)]
              exact s7 b o (s5 b o e)
        · obtain ⟨⟨us, hD, ul, hu⟩, s5⟩ := hh
          rw [zl, List.take_length] at hu
          refine ⟨(by show 0 ≤ sizeLine; decide), fun E1 nE => ?_⟩
          have s6 := same_new (o := .lst []) nE
          have s7 : Same H (L2.upd H' E1 (.lst [])) := fun b o e => s6 b o (s5 b o (s4 b o e))
          obtain ⟨f1, f2⟩ := lay_filter (fun d => !isNumD i d) lay3'
          have shp : SeqAt.shaped (.list (ds3.filter fun d => !isNumD i d)) = true := by
            refine shaped_of (by simpa only [PyData.canLay0] using f1) ?_
            simp only [PyData.depth]
            omega
          refine ⟨_, .list [], .lst (SqL.of (s6 _ _ hD)) (dps_same s7 hu), .lst (SqL.of upd_same) .nil, shp, by decide, _, rfl, ?_⟩
          rw [eqv_nilg]
          have em : (ds3.filter fun d => !isNumD i d).isEmpty = ds3.all (isNumD i) := by
            rw [Bool.eq_iff_iff, List.isEmpty_iff, List.filter_eq_nil_iff, List.all_eq_true]
            simp
          rw [em]
          cases e5 : ds3.all (isNumD i) with
          | false => exact LK.ifT rfl ⟨_, rfl, bad _ s7 (by rw [lb, isParD, e5]; rfl)⟩
          | true =>
          refine LK.ifF rfl ?_
          obtain ⟨ns, n1, n2⟩ := nums_take (many := i) (k := ds3.length) hd3 fun j hj d e => List.all_eq_true.mp e5 d (List.mem_of_getElem? e)
          rw [List.take_length] at n2
          rw [← zl, List.take_length] at n1
          subst n1
          subst n2
          have hL2 := s6 _ _ (s5 _ _ hL)
          generalize L2.upd H' E1 (.lst []) = H5 at s7 hL2 ⊢
          have nl : ns.length ≤ 1000 := by
            rw [List.length_map] at ln3
            exact ln3
          refine ⟨_, rfl, L, _, rfl, .inl (SqL.of hL2), 1, _, rfl, ⟨by decide, by decide, by omega, by rw [List.length_map]; omega⟩, fun D2 nD2 => ?_⟩
          refine lc_range (lo := 1) (n := (((ns.map V.int).length : Nat) - (1 : Int)).toNat) (fun j H' => H' D2 = some (.lst ((((List.range j).filter fun t => !ltAt (ns.map PyData.int) t).map fun t : Nat => (1 + (t : Int))).map V.int)) ∧ Same H5 H') ⟨upd_same, same_new nD2⟩ (fun j H' hj hh => ⟨rfl, ?_⟩) (fun H' hh => ?_)
          · obtain ⟨hD2, s8⟩ := hh
            rw [List.length_map] at hj
            obtain ⟨p1, q1⟩ : ∃ p, ns[j]? = some p := ⟨ns[j]'(by omega), List.getElem?_eq_getElem (by omega)⟩
            obtain ⟨p2, q2⟩ : ∃ p, ns[j + 1]? = some p := ⟨ns[j + 1]'(by omega), List.getElem?_eq_getElem (by omega)⟩
            have a1 : atI (ns.map V.int) (1 + (j : Int) - 1) = some (.int p1) := by
              rw [show (1 + (j : Int) - 1) = (j : Nat) by omega]
              exact atI_nat (by rw [List.getElem?_map, q1]; rfl)
            have a2 : atI (ns.map V.int) (1 + (j : Int)) = some (.int p2) := by
              rw [show (1 + (j : Int)) = ((j + 1 : Nat) : Int) by omega]
              exact atI_nat (by rw [List.getElem?_map, q2]; rfl)
            have lt : ltAt (ns.map PyData.int) j = decide (p1 < p2) := by
              unfold ltAt
              rw [List.getElem?_map, List.getElem?_map, q1, q2]
              rfl
            have hL3 := SqL.of (K := K) (s8 _ _ hL2)
            refine ⟨_, rfl, _, rfl, _, _, rfl, rfl, L, _, _, _, rfl, rfl, hL3, a1, _, rfl, _, rfl, L, _, _, _, rfl, rfl, hL3, a2, p1, p2, rfl, rfl, _, rfl, ?_⟩
            rw [filt_more, lt]
            by_cases c : p1 < p2
            · refine LK.ifF (decide_eq_false (by omega)) ⟨?_, s8⟩
              rw [decide_eq_true c]
              simpa using hD2
            · refine LK.ifT (decide_eq_true (by omega)) ⟨_, rfl, _, hD2, ?_, ?_, fun b o e => ?_⟩
              · rw [List.length_map, List.length_map]
                exact Nat.lt_of_le_of_lt (List.length_filter_le _ _) (by rw [List.length_range]; exact Nat.lt_of_lt_of_le (by omega : j < 2000) (by decide))
              · rw [upd_same, decide_eq_false c]
                simp
              · rw [upd_ne (ne_of_none e nD2)]
                exact s8 b o e
          · obtain ⟨hD2, s8⟩ := hh
            refine ⟨(by show 0 ≤ sizeLine; decide), fun E2 nE2 => ?_⟩
            have s9 := same_new (o := .lst []) nE2
            have s10 : Same H (L2.upd H' E2 (.lst [])) := fun b o e => s9 b o (s8 b o (s7 b o e))
            refine ⟨_, .list [], .lst (SqL.of (s9 _ _ hD2)) (dp_ints_of _), .lst (SqL.of upd_same) .nil, sh_ints _, by decide, _, rfl, ?_⟩
            rw [eqv_nili, List.isEmpty_map]
            have em : ((List.range (((ns.map V.int).length : Nat) - (1 : Int)).toNat).filter fun t => !ltAt (ns.map PyData.int) t).isEmpty = rise (ns.map PyData.int) := by
              unfold rise
              rw [show (((ns.map V.int).length : Nat) - (1 : Int)).toNat = (ns.map PyData.int).length - 1 by rw [List.length_map, List.length_map]; omega]
              rw [Bool.eq_iff_iff, List.isEmpty_iff, List.filter_eq_nil_iff, List.all_eq_true]
              simp
            rw [em]
            have lp : isLoopD i (.tuple [d1, .tuple (ns.map PyData.int)]) = rise (ns.map PyData.int) := by rw [lb, isParD, e5, Bool.true_and]
            cases e6 : rise (ns.map PyData.int) with
            | false => exact LK.ifT rfl ⟨_, rfl, bad _ s10 (lp.trans e6)⟩
            | true =>
              refine LK.ifF rfl ⟨_, _, _, rfl, fun k' hk' => ?_, s10⟩
              by_cases ek : k' = i
              · subst ek
                rw [loopBad_at hd', lp, e6]
                rfl
              · exact hb k' (by omega)
      · obtain ⟨o1, o2, o3, rfl, hb, s1⟩ := hI
        have := k H' s1
        rw [loopsFault, find_all (fun j hj => hb j (by omega))] at this
        exact this
end
end K1
namespace K1
open PySem PySem.Spec PyProof.Rows L2 LK RZ
/-- what Cloth of d and e raises: the error's short name, its value -/
def dueD (d e : PyData) : Option (Str × Int) := match loopsFault d with
  | some i => some ("loops", i)
  | none => match d with
    | .list ds => (lotFault ds.length e).map fun i => (("fast" : Str), i)
    | _ => none
def spDue (K : PySem.W.Frag) : Sp := fun vs H Q _ => ∃ (v u : V) (d e : PyData), vs = [v, u] ∧ Dp K H v d ∧ Dp K H u e ∧ tame d = true ∧ d.canLay0 = true ∧ d.depth ≤ 50 ∧ tame e = true ∧
  (∀ H', Same H H' → dueD d e = none → Q .non H') ∧ ∀ H' p nm i, H p = none → Same H H' → H' p = some (.tup [.str nm, .int i]) → dueD d e = some (nm, i) → Q (.ref p) H'
theorem loops_none {d : PyData} (h : loopsFault d = none) : ∃ ds, d = .list ds := by
  cases d <;> first | exact ⟨_, rfl⟩ | exact absurd h (by simp [loopsFault])
section
variable {P : Program} {w : World} {K : PySem.W.Frag} {mg : Str → Option Value} {base : Heap}
abbrev sDue : Stmt := top 32
theorem scDue : FnScope ["loops_here", "fast_here", "fault"] ["loops_here", "fast_here"] (defScope sDue) := ⟨rfl, rfl, rfl, by decide +kernel, rfl, by decide +kernel, by decide +kernel⟩
theorem ok_Due {f : Addr} {fd : FuncData} (F : Fun K "_law_due" "_law_due" sDue f fd) (B : Bl mg) {fl : Addr} {fdl : FuncData} (Gl : FnOk P w K mg base CX0 2 fl fdl ["thing"] (spLoops K)) (gl : mg "_law_loops_fault" = some (.ref fl)) (kl : PySem.W.keepIn K (.ref fl) = true) (bl : Binds K fdl ["thing"] []) {ff : Addr} {fdf : FuncData} (Gf : FnOk P w K mg base CX0 2 ff fdf ["count", "thing"] (spLot2 K)) (gf : mg "_law_lot_fault" = some (.ref ff)) (kf : PySem.W.keepIn K (.ref ff) = true) (bf : Binds K fdf ["count", "thing"] []) : FnOk P w K mg base CX0 3 f fd ["loops_here", "fast_here"] (spDue K) := by
  refine F.ok scDue (fun vs H Q E h => ?_) (fun cdv A outer s H vs Q E hr h => ?_)
  · obtain ⟨v, u, d, e, rfl, _⟩ := h
    rfl
  · obtain ⟨v, u, d, e, rfl, h1, h2, tm, lay, dp, tme, k1, k2⟩ := h
    refine ⟨_, pss_cons (ps_set (i := 2) scDue.nd rfl (Or.inl rfl) (pe_call (E := E0) Gl (hr.mono (by decide)) rfl gl kl bl .nil pass0 (pa_cons (pv 0) pa_nil)))
      (pss_cons (ps_if (pt_cmpR op_notN (pv 2) pe_non (nomark _)) (pss_one (ps_ret (pe_tup (pa_cons pe_str (pa_cons (pv 2) pa_nil))))) pss_nil)
      (pss_cons (ps_set (i := 2) scDue.nd rfl (Or.inl rfl) (pe_call (E := E0) Gf (hr.mono (by decide)) rfl gf kf bf .nil pass0 (pa_cons (pe_callB call_len_seq (by rfl) (B "len" (by decide)) (by decide +kernel) (pa_cons (pv 0) pa_nil)) (pa_cons (pv 1) pa_nil))))
      (pss_one (ps_ret (pe_ifExp (pt_cmpR op_isN (pv 2) pe_non (nomark _)) pe_non (pe_tup (pa_cons pe_str (pa_cons (pv 2) pa_nil)))))))), ?_⟩
    refine ⟨_, rfl, v, d, rfl, h1, tm, lay, dp, fun H1 s1 => ?_⟩
    cases e1 : loopsFault d with
    | some i =>
      refine ⟨_, rfl, rfl, _, rfl, ?_⟩
      refine LK.ifT (show (!decide (V.int i = V.non)) = true by simp) ⟨_, rfl, (by show 2 ≤ sizeLine; decide), fun p np => ?_⟩
      refine k2 _ p "loops" i ?_ (fun b o eb => same_new np b o (s1 b o eb)) upd_same (by unfold dueD; rw [e1])
      cases ep : H p with
      | none => rfl
      | some o => rw [s1 _ _ ep] at np; cases np
    | none =>
      obtain ⟨ds, rfl⟩ := loops_none e1
      refine ⟨_, rfl, rfl, _, rfl, LK.ifF (show (!decide (V.non = V.non)) = false by simp) ?_⟩
      have h1' := dp_same s1 h1
      obtain ⟨a, xs, ds', rfl, e', hs, hd⟩ := list_of h1' rfl
      cases e'
      have xl := dps_len hd
      refine ⟨_, rfl, a, xs, rfl, .inl hs, _, rfl, u, e, _, rfl, dp_same s1 h2, tme, fun H2 s2 => ?_⟩
      have s3 : Same H H2 := fun b o eb => s2 b o (s1 b o eb)
      rw [xl]
      have du : dueD (.list ds) e = (lotFault ds.length e).map fun i => (("fast" : Str), i) := by
        unfold dueD
        rw [e1]
      cases e2 : lotFault ds.length e with
      | none =>
        rw [e2] at du
        exact ⟨_, rfl, rfl, _, rfl, LK.ifT (show decide (V.non = V.non) = true by simp) (k1 H2 s3 du)⟩
      | some i =>
        rw [e2] at du
        refine ⟨_, rfl, rfl, _, rfl, LK.ifF (show decide (V.int i = V.non) = false by simp) ⟨_, rfl, (by show 2 ≤ sizeLine; decide), fun p np => ?_⟩⟩
        refine k2 _ p "fast" i ?_ (fun b o eb => same_new np b o (s3 b o eb)) upd_same du
        cases ep : H p with
        | none => rfl
        | some o => rw [s3 _ _ ep] at np; cases np
end
end K1
namespace K1
open PySem PySem.Spec PyProof.Rows L2 L2H LK RZ MXb MXd MXe MXf
theorem _root_.L2.Fun.okC {P : Program} {w : World} {K : PySem.W.Frag} {mg : Str → Option Value} {base : Heap} {CX : CXT} {x qual : Str} {st : Stmt} {f : Addr} {fd : FuncData} {N ps : List Str} {k : Nat} {sp : Sp} (F : Fun K x qual st f fd) (S : FnScope N ps (defScope st))
    (len : ∀ vs H Q E, sp vs H Q E → vs.length = ps.length)
    (body : ∀ (cdv : Value) (A : Around) (outer : List Env) (s : Shared) (H : Hp) (vs : List V) (Q : VK) (E : XK), Room k (A.deeper (envOfC qual (defScope st) s.heap.objs.size f cdv)) → sp vs H Q E →
      ∃ t, PSs (cxOf CX P w K mg base N qual (defScope st) f cdv A outer s H E) (defBody st) t ∧ t { nx := fun _ H' => Q .non H', rt := Q } (start N vs) H) : FnOk P w K mg base CX (k + 1) f fd ps sp := by
  obtain ⟨oc, od, kV, doc, pm, an, cdv, ct, osl, rfl, lk, hcd⟩ := F.ex
  exact fn_of lk hcd S len fun A outer s H vs Q E room q => body cdv A outer s H vs Q E room q
abbrev sInit : Stmt := inClass (top 2) 0
/-- the error of class C, its value y, leaves -/
def Out (C : Addr) (H : Hp) (E : XK) (y : V) : Prop := ∀ (d : Addr) (H' : Hp), H d = none → Same H H' → H' d = some (.xd [("value", y)]) → E (.ref C) (some d) H'
def spChkF (K : PySem.W.Frag) (CF : Addr) : Sp := fun vs H Q E => ∃ (v : V) (d : PyData) (many : Int), vs = [v, .int many] ∧ Dp K H v d ∧ tame d = true ∧ (lotFault many d = none → ∀ H', Same H H' → Q .non H') ∧ ∀ i, lotFault many d = some i → Out CF H E (.int i)
def spChkL (K : PySem.W.Frag) (CL : Addr) : Sp := fun vs H Q E => ∃ (v : V) (d : PyData), vs = [v] ∧ Dp K H v d ∧ tame d = true ∧ d.canLay0 = true ∧ (loopsFault d = none → ∀ H', Same H H' → Q .non H') ∧ ∀ i, loopsFault d = some i → Out CL H E (.int i)
structure Ini (P : Program) (w : World) (K : PySem.W.Frag) (mg : Str → Option Value) (base : Heap) (fI : Addr) (fdI : FuncData) : Prop where
  ok : FnOk P w K mg base CX0 1 fI fdI ["self", "value"] (spInit K "value")
  bd : Bind1 K fdI "value"
section
variable {P : Program} {w : World} {K : PySem.W.Frag} {mg : Str → Option Value} {base : Heap} {fI CF CL : Addr} {fdI : FuncData}
theorem Out.go {C : Addr} {H H1 : Hp} {E : XK} {y : V} (o : Out C H E y) (s : Same H H1) : ∀ d, H1 d = none → E (.ref C) (some d) (upd H1 d (.xd [("value", y)])) := fun d nd => by
  refine o d _ ?_ (fun b u e => same_new nd b u (s b u e)) upd_same
  cases e : H d with
  | none => rfl
  | some u => rw [s _ _ e] at nd; cases nd
theorem scI : FnScope ["self", "value"] ["self", "value"] (defScope sInit) := ⟨rfl, rfl, rfl, by decide +kernel, rfl, by decide +kernel, by decide +kernel⟩
theorem ok_init {f : Addr} {fd : FuncData} (F : Fun K "__init__" "RunError.__init__" sInit f fd) : FnOk P w K mg base CX0 1 f fd ["self", "value"] (spInit K "value") := by
  refine F.ok scI (fun vs H Q E h => ?_) (fun cdv A outer s H vs Q E hr h => ?_)
  · obtain ⟨e, C, y, rfl, _⟩ := h
    rfl
  · obtain ⟨e, C, y, rfl, T, no, he, k⟩ := h
    exact ⟨_, pss_one (ps_ost (pv 0) (pv 1)), ⟨_, rfl, _, rfl, e, C, rfl, T, no, .inl ⟨he, k⟩⟩⟩
abbrev sChkF : Stmt := top 16
theorem scChkF : FnScope ["fast", "many", "index"] ["fast", "many"] (defScope sChkF) := ⟨rfl, rfl, rfl, by decide +kernel, rfl, by decide +kernel, by decide +kernel⟩
theorem ok_ChkF {f : Addr} {fd : FuncData} (F : Fun K "check_fast" "check_fast" sChkF f fd) (B : Bl mg) {fo : Addr} {fdo : FuncData} (Go : FnOk P w K mg base CX0 3 fo fdo ["numbers", "many"] (spLot K)) (go : mg "wrong_number" = some (.ref fo)) (ko : PySem.W.keepIn K (.ref fo) = true) (bo : Binds K fdo ["numbers", "many"] []) (I : Ini P w K mg base fI fdI) (TF : XC K mg fI CF "InvalidFast" "value") : FnOk P w K mg base (L2N.CX P w) 4 f fd ["fast", "many"] (spChkF K CF) := by
  refine F.okC scChkF (fun vs H Q E h => ?_) (fun cdv A outer s H vs Q E hr h => ?_)
  · obtain ⟨v, d, many, rfl, _⟩ := h
    rfl
  · obtain ⟨v, d, many, rfl, h1, tm, k1, k2⟩ := h
    refine ⟨_, pss_cons (ps_set (i := 2) scChkF.nd rfl (Or.inl rfl) (pe_call (E := E0) Go (hr.mono (by decide)) rfl go ko bo .nil pass0 (pa_cons (pv 0) (pa_cons (pv 1) pa_nil))))
      (pss_one (ps_if (pt_cmpR op_notN (pv 2) pe_non (nomark _)) (pss_one (L2N.ps_raise rfl (L2N.takes_of rfl rfl rfl rfl) (pmk1 TF I.ok I.bd (hr.mono (by decide)) rfl (pv 2)))) pss_nil)), ?_⟩
    refine ⟨_, rfl, _, rfl, v, d, many, rfl, h1, tm, fun H1 s1 => ?_⟩
    cases e1 : lotFault many d with
    | none => exact ⟨_, rfl, rfl, _, rfl, LK.ifF (show (!decide (V.non = V.non)) = false by simp) (k1 e1 H1 s1)⟩
    | some i =>
      refine ⟨_, rfl, rfl, _, rfl, LK.ifT (show (!decide (V.int i = V.non)) = true by simp) ?_⟩
      exact ⟨_, rfl, (k2 i e1).go s1⟩
abbrev sChkL : Stmt := top 15
theorem scChkL : FnScope ["loops", "number", "loop"] ["loops"] (defScope sChkL) := ⟨rfl, rfl, rfl, by decide +kernel, rfl, by decide +kernel, by decide +kernel⟩
theorem ok_ChkL {f : Addr} {fd : FuncData} (F : Fun K "check_loops" "check_loops" sChkL f fd) (B : Bl mg) {fo : Addr} {fdo : FuncData} (Go : FnOk P w K mg base CX0 4 fo fdo ["value", "number"] (spLoop K)) (go : mg "is_loop" = some (.ref fo)) (ko : PySem.W.keepIn K (.ref fo) = true) (bo : Binds K fdo ["value", "number"] []) (I : Ini P w K mg base fI fdI) (TL : XC K mg fI CL "InvalidLoops" "value") : FnOk P w K mg base (L2N.CX P w) 5 f fd ["loops"] (spChkL K CL) := by
  refine F.okC scChkL (fun vs H Q E h => ?_) (fun cdv A outer s H vs Q E hr h => ?_)
  · obtain ⟨v, d, rfl, _⟩ := h
    rfl
  · obtain ⟨v, d, rfl, h1, tm, lay, k1, k2⟩ := h
    refine ⟨_, pss_cons (ps_if (pt_not (pt_val (pe_callB call_isi (by rfl) (B "isinstance" (by decide)) (by decide +kernel) (pa_cons (pv 0) (pa_cons (pe_bltn (v := .ty "list") rfl (B "list" (by decide)) (by decide +kernel) rfl) pa_nil))))) (pss_one (L2N.ps_raise rfl (L2N.takes_of rfl rfl rfl rfl) (pmk1 TL I.ok I.bd (hr.mono (by decide)) rfl (pe_un un_neg pe_int)))) pss_nil)
      (pss_one (ps_for (passes_of rfl) rfl (pi_enum (by rfl) (B "enumerate" (by decide)) (pa_cons (pv 0) pa_nil)) (pg_tup rfl (pgs_cons (pg_name (i := 1) scChkL.nd rfl (Or.inl rfl)) (pgs_cons (pg_name (i := 2) scChkL.nd rfl (Or.inl rfl)) pgs_nil))) (pss_one (ps_if (pt_not (pt_val (pe_call (E := E0) Go (hr.mono (by decide)) rfl go ko bo .nil pass0 (pa_cons (pv 2) (pa_cons (pv 1) pa_nil))))) (pss_one (L2N.ps_raise rfl (L2N.takes_of rfl rfl rfl rfl) (pmk1 TL I.ok I.bd (hr.mono (by decide)) rfl (pv 1)))) pss_nil)))), ?_⟩
    refine ⟨_, rfl, _, _, _, _, _, rfl, .ty "list", dp_ty h1, kit_d h1 "list" (by decide), _, rfl, ?_⟩
    cases e : isK d "list" with
    | false =>
      refine LK.ifT rfl ⟨1, rfl, (k2 _ (loops_no e)).go (Same.refl H)⟩
    | true =>
      obtain ⟨a, xs, ds, rfl, rfl, hs, hd⟩ := list_of h1 e
      rw [tame, Bool.and_eq_true] at tm
      have lay' : PyData.canLayAll0 ds = true := by simpa only [PyData.canLay0] using lay
      have xl := dps_len hd
      refine LK.ifF rfl ⟨_, rfl, a, xs, rfl, hs, ?_⟩
      refine for_enum (xs := xs) (fun i σ H' => ∃ (o1 o2 : Option V), σ = [some (.ref a), o1, o2] ∧ (∀ k < i, loopBad ds k = false) ∧ Same H H')
        ⟨_, _, rfl, fun k h => absurd h (Nat.not_lt_zero _), Same.refl H⟩ (fun i σ H' h => h.choose_spec.choose_spec.2.2.seq hs) (fun i x T σ H' hx hI nT => ?_) (fun σ H' hI => ?_)
      · obtain ⟨o1, o2, rfl, hb, s1⟩ := hI
        obtain ⟨x', d, hx', hd', dx⟩ := dps_at hd (i := i) (by rw [← xl]; exact (List.getElem?_eq_some_iff.mp hx).1)
        obtain rfl : x = x' := by
          rw [hx] at hx'
          exact Option.some.inj hx'
        have il : i < ds.length := by
          rw [← xl]
          exact (List.getElem?_eq_some_iff.mp hx).1
        have dm : d ∈ ds := List.mem_of_getElem? hd'
        have s3 : Same H _ := fun b o e => same_new (o := .tup [.int (i : Nat), x]) nT b o (s1 b o e)
        refine ⟨T, _, rfl, .inl (.inl upd_same), rfl, _, _, rfl, _, _, rfl, rfl, ?_⟩
        refine ⟨_, rfl, _, rfl, x, d, (i : Int), rfl, dp_same s3 dx, tame_mem tm.2 dm, lay_mem lay' dm, fun H2 s4 => ⟨_, rfl, ?_⟩⟩
        have s5 : Same H H2 := fun b o e => s4 b o (s3 b o e)
        cases e1 : isLoopD i d with
        | false =>
          refine LK.ifT rfl ⟨_, rfl, (k2 (i : Int) ?_).go s5⟩
          rw [loopsFault, find_at il hb (by rw [loopBad_at hd', e1]; rfl)]
          rfl
        | true =>
          refine LK.ifF rfl ⟨_, _, rfl, fun k' hk' => ?_, s5⟩
          by_cases ek : k' = i
          · subst ek
            rw [loopBad_at hd', e1]
            rfl
          · exact hb k' (by omega)
      · obtain ⟨o1, o2, rfl, hb, s1⟩ := hI
        refine k1 ?_ H' s1
        rw [loopsFault, find_all (fun j hj => hb j (by omega))]
        rfl
end
end K1
namespace K1
open PySem PySem.Spec PyProof.Rows L2 L2H LK RZ MXb MXd MXe MXf
abbrev sClo : Stmt := inClass (top 18) 0
/-- all but p stays -/
def But (p : Addr) (H H' : Hp) : Prop := ∀ b o, b ≠ p → H b = some o → H' b = some o
/-- __init__ at x: what it raises, or the loops of its own and the sorted fast ones -/
def spClo (K : PySem.W.Frag) (CC CF CL : Addr) : Sp := fun vs H Q E => ∃ (x dx : Addr) (u v : V) (d e : PyData), vs = [.ref x, u, v] ∧ H x = some (.ins CC dx []) ∧ Cls K CC ∧ NoAttr K CC "_loops" ∧ NoAttr K CC "_fast" ∧ Dp K H u d ∧ Dp K H v e ∧ tame d = true ∧ d.canLay0 = true ∧ tame e = true ∧
  (∀ i, dueD d e = some (("loops" : Str), i) → Out CL H E (.int i)) ∧ (∀ i, dueD d e = some (("fast" : Str), i) → Out CF H E (.int i)) ∧
  ∀ (ds : List PyData) (ns ms : List Int) (L G : Addr) (H' : Hp) (xs : List V), dueD d e = none → d = .list ds → e = .list (ns.map PyData.int) → ms.Perm ns → ms.Pairwise (· ≤ ·) → H L = none → H G = none → L ≠ G → H' x = some (.ins CC dx [("_loops", .ref L), ("_fast", .ref G)]) → H' L = some (.lst xs) → DpAll K H xs ds → H' G = some (.lst (ms.map V.int)) → But x H H' → Q .non H'
theorem sql_but {K : PySem.W.Frag} {H H' : Hp} {x a C dx : Addr} {fs : List (Str × V)} {xs : List V} (hx : H x = some (.ins C dx fs)) (s : But x H H') (h : SqL K H a xs) : SqL K H' a xs := by
  rcases h with (h | ⟨o, h⟩) | h
  · exact .inl (.inl (s _ _ (ne_of h hx (by intro q; cases q)) h))
  · exact .inl (.inr ⟨o, s _ _ (ne_of h hx (by intro q; cases q)) h⟩)
  · exact .inr h
theorem But.of {x : Addr} {H H' : Hp} (s : Same H H') : But x H H' := fun b o _ e => s b o e
theorem But.trans {x : Addr} {H H1 H2 : Hp} (a : But x H H1) (b : But x H1 H2) : But x H H2 := fun c o n e => b c o n (a c o n e)
theorem But.put {x : Addr} {H : Hp} {o : HO} : But x H (L2.upd H x o) := fun b u n e => by
  rw [upd_ne n]
  exact e
theorem Out.more {C : Addr} {H H1 : Hp} {E : XK} {y : V} (o : Out C H E y) (s : Same H H1) : Out C H1 E y := fun d H' nd s' e => by
  refine o d H' ?_ (fun b u q => s' b u (s b u q)) e
  cases q : H d with
  | none => rfl
  | some u => rw [s _ _ q] at nd; cases nd
theorem lot_none {many : Int} {e : PyData} (h : lotFault many e = none) : ∃ es, e = .list es ∧ ∀ j < es.length, lotBad many es j = false := by
  cases e with
  | list es =>
    refine ⟨es, rfl, fun j hj => ?_⟩
    rw [lotFault] at h
    have h' : (List.range es.length).find? (lotBad many es) = none := by
      cases q : (List.range es.length).find? (lotBad many es) with
      | none => rfl
      | some k => rw [q] at h; cases h
    have := List.find?_eq_none.mp h' j (List.mem_range.mpr hj)
    simpa using this
  | _ => exact absurd h (by simp [lotFault])
section
variable {P : Program} {w : World} {K : PySem.W.Frag} {mg : Str → Option Value} {base : Heap} {CC CF CL : Addr}
theorem scClo : FnScope ["self", "loops", "fast"] ["self", "loops", "fast"] (defScope sClo) := ⟨rfl, rfl, rfl, by decide +kernel, rfl, by decide +kernel, by decide +kernel⟩
theorem ok_Clo {f fA fB : Addr} {fd fdA fdB : FuncData} (F : Fun K "__init__" "Cloth.__init__" sClo f fd) (B : Bl mg)
    (GA : FnOk P w K mg base (L2N.CX P w) 5 fA fdA ["loops"] (spChkL K CL)) (gA : mg "check_loops" = some (.ref fA)) (kA : PySem.W.keepIn K (.ref fA) = true) (bA : Binds K fdA ["loops"] [])
    (GB : FnOk P w K mg base (L2N.CX P w) 4 fB fdB ["fast", "many"] (spChkF K CF)) (gB : mg "check_fast" = some (.ref fB)) (kB : PySem.W.keepIn K (.ref fB) = true) (bB : Binds K fdB ["fast", "many"] []) :
    FnOk P w K mg base (L2N.CX P w) 6 f fd ["self", "loops", "fast"] (spClo K CC CF CL) := by
  refine F.okC scClo (fun vs H Q E h => ?_) (fun cdv A outer s H vs Q E hr h => ?_)
  · obtain ⟨x, dx, u, v, d, e, rfl, _⟩ := h
    rfl
  · obtain ⟨x, dx, u, v, d, e, rfl, hx, hc, nl, nf, hd, he, tm, lay, tme, k1, k2, k3⟩ := h
    refine ⟨_, pss_cons (ps_expr (pe_call (E := E) GA (hr.mono (by decide)) rfl gA kA bA .nil (L2N.passes_call (L2N.takes_of rfl rfl rfl rfl) (fun _ _ _ _ z => z)) (pa_cons (pv 1) pa_nil)))
      (pss_cons (ps_expr (pe_call (E := E) GB (hr.mono (by decide)) rfl gB kB bB .nil (L2N.passes_call (L2N.takes_of rfl rfl rfl rfl) (fun _ _ _ _ z => z)) (pa_cons (pv 2) (pa_cons (pe_callB call_len_seq (by rfl) (B "len" (by decide)) (by decide +kernel) (pa_cons (pv 1) pa_nil)) pa_nil))))
      (pss_cons (ps_fld (pv 0) (pe_callTy call_list_of (by rfl) (B "list" (by decide)) (by decide +kernel) (pa_cons (pv 1) pa_nil)) rfl)
      (pss_one (ps_fld (pv 0) (pe_callB L2.cr_sortedI (by rfl) (B "sorted" (by decide)) (by decide +kernel) (pa_cons (pv 2) pa_nil)) rfl)))), ?_⟩
    refine ⟨_, rfl, u, d, rfl, hd, tm, lay, fun e1 H1 s1 => ?_, fun i e1 => k1 i (by unfold dueD; rw [e1])⟩
    obtain ⟨ds, rfl⟩ := loops_none e1
    obtain ⟨a, xs, ds', rfl, e', hs, hds⟩ := list_of hd rfl
    cases e'
    have xl := dps_len hds
    have du : dueD (.list ds) e = (lotFault ds.length e).map fun i => (("fast" : Str), i) := by
      unfold dueD
      rw [e1]
    refine ⟨_, rfl, _, rfl, a, xs, rfl, .inl (s1.seq hs), v, e, _, rfl, dp_same s1 he, tme, fun e2 H2 s2 => ?_, fun i e2 => ?_⟩
    · rw [xl] at e2
      rw [e2] at du
      have s3 : Same H H2 := fun b o q => s2 b o (s1 b o q)
      obtain ⟨es, rfl, hb⟩ := lot_none e2
      obtain ⟨b, ys, es', rfl, e', hys, hes⟩ := list_of he rfl
      cases e'
      obtain ⟨ns, n1, n2⟩ := nums_take (many := ds.length) (k := es.length) hes fun j hj d q => bad_num (hb j hj) q
      rw [List.take_length] at n2
      rw [← dps_len hes, List.take_length] at n1
      subst n1
      subst n2
      refine ⟨_, rfl, a, xs, rfl, .inl (s3.seq hs), fun L nL => ?_⟩
      have s4 := same_new (o := .lst xs) nL
      have x4 := s4 _ _ (s3 _ _ hx)
      refine ⟨_, rfl, x, CC, dx, [], rfl, x4, hc, nl, by decide, ?_⟩
      have b5 : But x H (L2.upd (L2.upd H2 L (.lst xs)) x (.ins CC dx (putF "_loops" (.ref L) []))) := (But.of fun b o q => s4 b o (s3 b o q)).trans But.put
      refine ⟨_, rfl, b, ns, rfl, sql_but hx b5 hys, fun ms G perm pw nG => ?_⟩
      have xG : x ≠ G := ne_of_none upd_same nG
      have b6 : But x H (L2.upd (L2.upd (L2.upd H2 L (.lst xs)) x (.ins CC dx (putF "_loops" (.ref L) []))) G (.lst (ms.map V.int))) := b5.trans (But.of (same_new nG))
      have x6 := (upd_ne (H := L2.upd (L2.upd H2 L (.lst xs)) x (.ins CC dx (putF "_loops" (.ref L) []))) (o := .lst (ms.map V.int)) xG).trans upd_same
      refine ⟨_, rfl, x, CC, dx, _, rfl, x6, hc, nf, (by show 1 < 1000; decide), ?_⟩
      have nL0 : H L = none := by
        cases q : H L with
        | none => rfl
        | some o => rw [s3 _ _ q] at nL; cases nL
      have Lx : L ≠ x := (ne_of_none (s3 _ _ hx) nL).symm
      have eL5 : (L2.upd (L2.upd H2 L (.lst xs)) x (.ins CC dx (putF "_loops" (.ref L) []))) L = some (.lst xs) := by
        rw [upd_ne Lx]
        exact upd_same
      have LG : L ≠ G := ne_of_none eL5 nG
      have nG0 : H G = none := by
        cases q : H G with
        | none => rfl
        | some o => rw [b5 _ _ (Ne.symm xG) q] at nG; cases nG
      refine k3 ds ns ms L G _ xs (du.trans rfl) rfl rfl perm pw nL0 nG0 LG ?_ ?_ hds ?_ (b6.trans But.put)
      · rw [upd_same]
        rfl
      · rw [upd_ne Lx, upd_ne LG]
        exact eL5
      · rw [upd_ne (Ne.symm xG)]
        exact upd_same
    · rw [xl] at e2
      rw [e2] at du
      exact (k2 i du).more s1
end
end K1
namespace K1
open PySem PySem.Spec PyProof.Rows L2 LK RZ
/-- the heap without the creel: what is read in it stays when the creel goes on -/
def hide (c : Addr) (H : Hp) : Hp := fun b => if b = c then none else H b
theorem hide_at {c b : Addr} {H : Hp} {o : HO} (n : b ≠ c) (e : H b = some o) : hide c H b = some o := by
  unfold hide
  rw [if_neg n]
  exact e
theorem hide_in {c : Addr} {H : Hp} : Same (hide c H) H := fun b o e => by
  unfold hide at e
  split at e
  · cases e
  · exact e
theorem hide_bt {c : Addr} {H H' : Hp} (s : Bt c H H') : Same (hide c H) (hide c H') := fun b o e => by
  unfold hide at e ⊢
  split at e
  · cases e
  · rename_i n
    rw [if_neg n]
    exact s b o n e
/-- data of tuples and texts alone never lie in the creel -/
theorem hide_tk {c : Addr} {H : Hp} {B : Nat} (h : CR H c B) : Tk H (hide c H) := fun b o no e => hide_at (h.ne e no) e
def spOdd (K : PySem.W.Frag) : Sp := fun vs H Q _ => ∃ (c : Addr) (count : Int) (B : Nat), vs = [.ref c, .int count] ∧ 0 ≤ count ∧ count ≤ 2000 ∧ CR H c B ∧ B + 1 < 10 ^ 12 ∧
  ∀ (H' : Hp) (v : V) (d : PyData), CR H' c (B + 1) → Bt c H H' → Dp K (hide c H') v d → tame d = true → d.canLay0 = true → d.depth ≤ 2 → Nice d → Q v H'
section
variable {P : Program} {w : World} {K : PySem.W.Frag} {mg : Str → Option Value} {base : Heap}
abbrev sOdd : Stmt := top 30
theorem scOdd : FnScope ["creel", "count", "some"] ["creel", "count"] (defScope sOdd) := ⟨rfl, rfl, rfl, by decide +kernel, rfl, by decide +kernel, by decide +kernel⟩
theorem ok_Odd {f : Addr} {fd : FuncData} (F : Fun K "_law_odd_thing" "_law_odd_thing" sOdd f fd) (B : Bl mg) {fp : Addr} {fdp : FuncData} (Gp : FnOk P w K mg base CX0 1 fp fdp ["creel", "span"] spPly) (gp : mg "_law_ply" = some (.ref fp)) (kp : PySem.W.keepIn K (.ref fp) = true) (bp : Binds K fdp ["creel", "span"] []) : FnOk P w K mg base CX0 2 f fd ["creel", "count"] (spOdd K) := by
  refine F.ok scOdd (fun vs H Q E h => ?_) (fun cdv A outer s H vs Q E hr h => ?_)
  · obtain ⟨c, count, bb, rfl, _⟩ := h
    rfl
  · obtain ⟨c, count, bb, rfl, cn0, cn1, hc, hB, k⟩ := h
    refine ⟨_, pss_cons (ps_set (i := 2) scOdd.nd rfl (Or.inl rfl) (pe_lst (pa_cons pe_non (pa_cons pe_bl (pa_cons pe_bl (pa_cons (pe_un un_neg pe_int) (pa_cons (pv 1) (pa_cons (pe_op op_add (pv 1) (pe_op op_pow pe_int pe_int)) (pa_cons pe_str (pa_cons pe_str (pa_cons (pe_tup (pa_cons pe_int pa_nil)) (pa_cons (pe_lst (pa_cons pe_int pa_nil)) (pa_cons (pe_tup pa_nil) (pa_cons (pe_lst pa_nil) (pa_cons pe_str (pa_cons (pe_un un_neg (pe_op op_pow pe_int pe_int)) (pa_cons (pe_tup (pa_cons pe_str (pa_cons (pe_tup pa_nil) pa_nil))) pa_nil)))))))))))))))))
      (pss_one (ps_ret (pe_ix ix_list (pv 2) (pe_call (E := E0) Gp (hr.mono (by decide)) rfl gp kp bp .nil pass0 (pa_cons (pv 0) (pa_cons (pe_callB call_len_seq (by rfl) (B "len" (by decide)) (by decide +kernel) (pa_cons (pv 2) pa_nil)) pa_nil))) (fun _ _ => rfl)))), ?_⟩
    refine ⟨1, rfl, _, rfl, _, rfl, _, _, rfl, rfl, ⟨by decide, by decide, by decide⟩, _, _, rfl, rfl, ?_⟩
    refine ⟨(by show 1 ≤ sizeLine; decide), fun T1 n1 => ⟨(by show 1 ≤ sizeLine; decide), fun L1 m1 => ⟨(by show 0 ≤ sizeLine; decide), fun T2 n2 => ⟨(by show 0 ≤ sizeLine; decide), fun L3 m2 => ?_⟩⟩⟩⟩
    refine ⟨_, _, rfl, rfl, ⟨by decide, by decide, by decide⟩, _, rfl, ?_⟩
    refine ⟨(by show 0 ≤ sizeLine; decide), fun T3 n3 => ⟨(by show 2 ≤ sizeLine; decide), fun T4 n4 => ⟨(by show 15 ≤ sizeLine; decide), fun S nS => ?_⟩⟩⟩
    have hT1 := upd_same (H := H) (a := T1) (o := .tup [.int 0])
    have s1 := same_new (o := .tup [.int 0]) n1
    generalize L2.upd H T1 (.tup [.int 0]) = H1 at *
    have hL1 := upd_same (H := H1) (a := L1) (o := .lst [.int 0])
    have s2 := same_new (o := .lst [.int 0]) m1
    generalize L2.upd H1 L1 (.lst [.int 0]) = H2 at *
    have hT2 := upd_same (H := H2) (a := T2) (o := .tup [])
    have s3 := same_new (o := .tup []) n2
    generalize L2.upd H2 T2 (.tup []) = H3 at *
    have hL3 := upd_same (H := H3) (a := L3) (o := .lst [])
    have s4 := same_new (o := .lst []) m2
    generalize L2.upd H3 L3 (.lst []) = H4 at *
    have hT3 := upd_same (H := H4) (a := T3) (o := .tup [])
    have s5 := same_new (o := .tup []) n3
    generalize L2.upd H4 T3 (.tup []) = H5 at *
    have hT4 := upd_same (H := H5) (a := T4) (o := .tup [.str "a", .ref T3])
    have s6 := same_new (o := .tup [.str "a", .ref T3]) n4
    generalize L2.upd H5 T4 (.tup [.str "a", .ref T3]) = H6 at *
    have hS := upd_same (H := H6) (a := S) (o := .lst [.non, .bl true, .bl false, .int (-1), .int count, .int (count + 10 ^ 38), .str "0", .str "", .ref T1, .ref L1, .ref T2, .ref L3, .str "a", .int (-(10 ^ 39)), .ref T4])
    have s7 := same_new (o := .lst [.non, .bl true, .bl false, .int (-1), .int count, .int (count + 10 ^ 38), .str "0", .str "", .ref T1, .ref L1, .ref T2, .ref L3, .str "a", .int (-(10 ^ 39)), .ref T4]) nS
    show gName 2 (V.ref S) _ (L2.upd H6 S (.lst [.non, .bl true, .bl false, .int (-1), .int count, .int (count + 10 ^ 38), .str "0", .str "", .ref T1, .ref L1, .ref T2, .ref L3, .str "a", .int (-(10 ^ 39)), .ref T4])) _
    generalize L2.upd H6 S (.lst [.non, .bl true, .bl false, .int (-1), .int count, .int (count + 10 ^ 38), .str "0", .str "", .ref T1, .ref L1, .ref T2, .ref L3, .str "a", .int (-(10 ^ 39)), .ref T4]) = H7 at *
    have sa : Same H H7 := fun b o e => s7 b o (s6 b o (s5 b o (s4 b o (s3 b o (s2 b o (s1 b o e))))))
    have c7 := hc.same sa
    refine ⟨_, rfl, _, rfl, _, rfl, S, _, rfl, .inl (SqL.of hS), c, 15, bb, rfl, by decide, by decide, c7, by omega, fun q H8 q0 q1 c8 b8 n8 => ?_⟩
    have ba : Bt c H H8 := (Bt.of sa).trans b8
    have tk : Tk H7 H8 := Tk.bt c7 b8
    have nc : ∀ {p : Addr} {Hn : Hp}, Same H Hn → Hn p = none → p ≠ c := fun {p Hn} s np e => by
      subst e
      obtain ⟨_, _, _, e, _⟩ := hc
      rw [s _ _ e] at np
      cases np
    have hS8 := b8 _ _ (nc (fun b o e => s6 b o (s5 b o (s4 b o (s3 b o (s2 b o (s1 b o e)))))) nS) hS
    have hL1' := b8 _ _ (nc s1 m1) (s7 _ _ (s6 _ _ (s5 _ _ (s4 _ _ (s3 _ _ hL1)))))
    have hL3' := b8 _ _ (nc (fun b o e => s3 b o (s2 b o (s1 b o e))) m2) (s7 _ _ (s6 _ _ (s5 _ _ hL3)))
    have hT1' := tk _ _ (by intro xs z; cases z) (s7 _ _ (s6 _ _ (s5 _ _ (s4 _ _ (s3 _ _ (s2 _ _ hT1))))))
    have hT2' := tk _ _ (by intro xs z; cases z) (s7 _ _ (s6 _ _ (s5 _ _ (s4 _ _ hT2))))
    have hT3' := tk _ _ (by intro xs z; cases z) (s7 _ _ (s6 _ _ hT3))
    have hT4' := tk _ _ (by intro xs z; cases z) (s7 _ _ hT4)
    have hL1'' := hide_at (nc s1 m1) hL1'
    have hL3'' := hide_at (nc (fun b o e => s3 b o (s2 b o (s1 b o e))) m2) hL3'
    have tk2 := hide_tk c8
    have hT1'' := tk2 _ _ (by intro xs z; cases z) hT1'
    have hT2'' := tk2 _ _ (by intro xs z; cases z) hT2'
    have hT3'' := tk2 _ _ (by intro xs z; cases z) hT3'
    have hT4'' := tk2 _ _ (by intro xs z; cases z) hT4'
    obtain rfl | rfl | rfl | rfl | rfl | rfl | rfl | rfl | rfl | rfl | rfl | rfl | rfl | rfl | rfl : q = 0 ∨ q = 1 ∨ q = 2 ∨ q = 3 ∨ q = 4 ∨ q = 5 ∨ q = 6 ∨ q = 7 ∨ q = 8 ∨ q = 9 ∨ q = 10 ∨ q = 11 ∨ q = 12 ∨ q = 13 ∨ q = 14 := by omega
    · exact ⟨S, _, 0, _, rfl, rfl, SqL.of hS8, rfl, k H8 _ _ c8 ba .non rfl rfl (by decide) ⟨by decide +kernel, by decide +kernel⟩⟩
    · exact ⟨S, _, 1, _, rfl, rfl, SqL.of hS8, rfl, k H8 _ _ c8 ba (.bl _) rfl rfl (by decide) ⟨by decide +kernel, by decide +kernel⟩⟩
    · exact ⟨S, _, 2, _, rfl, rfl, SqL.of hS8, rfl, k H8 _ _ c8 ba (.bl _) rfl rfl (by decide) ⟨by decide +kernel, by decide +kernel⟩⟩
    · exact ⟨S, _, 3, _, rfl, rfl, SqL.of hS8, rfl, k H8 _ _ c8 ba (.int _) rfl rfl (by simp [PyData.depth]) ⟨by decide +kernel, by decide +kernel⟩⟩
    · exact ⟨S, _, 4, _, rfl, rfl, SqL.of hS8, rfl, k H8 _ _ c8 ba (.int _) rfl rfl (by simp [PyData.depth]) (nice_int (by omega))⟩
    · exact ⟨S, _, 5, _, rfl, rfl, SqL.of hS8, rfl, k H8 _ _ c8 ba (.int _) rfl rfl (by simp [PyData.depth]) (nice_int (by omega))⟩
    · exact ⟨S, _, 6, _, rfl, rfl, SqL.of hS8, rfl, k H8 _ _ c8 ba (.str _) (by decide +kernel) (by decide +kernel) (by decide) ⟨by decide +kernel, by decide +kernel⟩⟩
    · exact ⟨S, _, 7, _, rfl, rfl, SqL.of hS8, rfl, k H8 _ _ c8 ba (.str _) (by decide +kernel) (by decide +kernel) (by decide) ⟨by decide +kernel, by decide +kernel⟩⟩
    · exact ⟨S, _, 8, _, rfl, rfl, SqL.of hS8, rfl, k H8 _ _ c8 ba (.tup (.inl (.inl hT1'')) (.cons (.int 0) .nil)) rfl rfl (by decide) ⟨by decide +kernel, by decide +kernel⟩⟩
    · exact ⟨S, _, 9, _, rfl, rfl, SqL.of hS8, rfl, k H8 _ _ c8 ba (.lst (SqL.of hL1'') (.cons (.int 0) .nil)) rfl rfl (by decide) ⟨by decide +kernel, by decide +kernel⟩⟩
    · exact ⟨S, _, 10, _, rfl, rfl, SqL.of hS8, rfl, k H8 _ _ c8 ba (.tup (.inl (.inl hT2'')) .nil) rfl rfl (by decide) ⟨by decide +kernel, by decide +kernel⟩⟩
    · exact ⟨S, _, 11, _, rfl, rfl, SqL.of hS8, rfl, k H8 _ _ c8 ba (.lst (SqL.of hL3'') .nil) rfl rfl (by decide) ⟨by decide +kernel, by decide +kernel⟩⟩
    · exact ⟨S, _, 12, _, rfl, rfl, SqL.of hS8, rfl, k H8 _ _ c8 ba (.str _) (by decide +kernel) (by decide +kernel) (by decide) ⟨by decide +kernel, by decide +kernel⟩⟩
    · exact ⟨S, _, 13, _, rfl, rfl, SqL.of hS8, rfl, k H8 _ _ c8 ba (.int _) rfl rfl (by simp [PyData.depth]) ⟨by decide +kernel, by decide +kernel⟩⟩
    · exact ⟨S, _, 14, _, rfl, rfl, SqL.of hS8, rfl, k H8 _ _ c8 ba (.tup (.inl (.inl hT4'')) (.cons (.str "a") (.cons (.tup (.inl (.inl hT3'')) .nil) .nil))) (by decide +kernel) (by decide +kernel) (by decide) ⟨by decide +kernel, by decide +kernel⟩⟩
end
end K1
namespace K1
open PySem PySem.Spec PyProof.Rows L2 LK
abbrev sPl : Stmt := inClass (top 18) 1
abbrev sPf : Stmt := inClass (top 18) 2
abbrev sLn : Stmt := inClass (top 18) 9
/-- a new list with the field's items -/
def spCopy (K : PySem.W.Frag) (C : Addr) (fl : Str) : Sp := fun vs H Q _ => ∃ (x dx L : Addr) (fs : List (Str × V)) (xs : List V), vs = [.ref x] ∧ H x = some (.ins C dx fs) ∧ Cls K C ∧ NoAttr K C fl ∧ fs.lookup fl = some (.ref L) ∧ H L = some (.lst xs) ∧ ∀ p, H p = none → Q (.ref p) (upd H p (.lst xs))
def spSize (K : PySem.W.Frag) (C : Addr) : Sp := fun vs H Q _ => ∃ (x dx L : Addr) (fs : List (Str × V)) (xs : List V), vs = [.ref x] ∧ H x = some (.ins C dx fs) ∧ Cls K C ∧ NoAttr K C "_loops" ∧ fs.lookup ("_loops" : Str) = some (.ref L) ∧ H L = some (.lst xs) ∧ Q (.int (xs.length : Nat)) H
section
variable {P : Program} {w : World} {K : PySem.W.Frag} {mg : Str → Option Value} {base : Heap} {C : Addr}
theorem scPl : FnScope ["self"] ["self"] (defScope sPl) := ⟨rfl, rfl, rfl, by decide +kernel, rfl, by decide +kernel, by decide +kernel⟩
theorem scPf : FnScope ["self"] ["self"] (defScope sPf) := ⟨rfl, rfl, rfl, by decide +kernel, rfl, by decide +kernel, by decide +kernel⟩
theorem scLn : FnScope ["self"] ["self"] (defScope sLn) := ⟨rfl, rfl, rfl, by decide +kernel, rfl, by decide +kernel, by decide +kernel⟩
theorem ok_Pl {f : Addr} {fd : FuncData} (F : Fun K "loops" "Cloth.loops" sPl f fd) (B : Bl mg) : FnOk P w K mg base CX0 1 f fd ["self"] (spCopy K C "_loops") := by
  refine F.ok scPl (fun vs H Q E h => ?_) (fun cdv A outer s H vs Q E hr h => ?_)
  · obtain ⟨x, dx, L, fs, xs, rfl, _⟩ := h
    rfl
  · obtain ⟨x, dx, L, fs, xs, rfl, hx, c, n, lk, hL, k⟩ := h
    refine ⟨_, pss_one (ps_ret (pe_callTy call_list_of (by rfl) (B "list" (by decide)) (by decide +kernel) (pa_cons (pe_fld (pv 0) rfl) pa_nil))), ?_⟩
    exact ⟨_, rfl, x, C, dx, fs, _, rfl, hx, c, n, lk, L, xs, rfl, .inl (SqL.of hL), k⟩
theorem ok_Pf {f : Addr} {fd : FuncData} (F : Fun K "fast" "Cloth.fast" sPf f fd) (B : Bl mg) : FnOk P w K mg base CX0 1 f fd ["self"] (spCopy K C "_fast") := by
  refine F.ok scPf (fun vs H Q E h => ?_) (fun cdv A outer s H vs Q E hr h => ?_)
  · obtain ⟨x, dx, L, fs, xs, rfl, _⟩ := h
    rfl
  · obtain ⟨x, dx, L, fs, xs, rfl, hx, c, n, lk, hL, k⟩ := h
    refine ⟨_, pss_one (ps_ret (pe_callTy call_list_of (by rfl) (B "list" (by decide)) (by decide +kernel) (pa_cons (pe_fld (pv 0) rfl) pa_nil))), ?_⟩
    exact ⟨_, rfl, x, C, dx, fs, _, rfl, hx, c, n, lk, L, xs, rfl, .inl (SqL.of hL), k⟩
theorem ok_Ln {f : Addr} {fd : FuncData} (F : Fun K "__len__" "Cloth.__len__" sLn f fd) (B : Bl mg) : FnOk P w K mg base CX0 1 f fd ["self"] (spSize K C) := by
  refine F.ok scLn (fun vs H Q E h => ?_) (fun cdv A outer s H vs Q E hr h => ?_)
  · obtain ⟨x, dx, L, fs, xs, rfl, _⟩ := h
    rfl
  · obtain ⟨x, dx, L, fs, xs, rfl, hx, c, n, lk, hL, k⟩ := h
    refine ⟨_, pss_one (ps_ret (pe_callB call_len_seq (by rfl) (B "len" (by decide)) (by decide +kernel) (pa_cons (pe_fld (pv 0) rfl) pa_nil))), ?_⟩
    exact ⟨_, rfl, x, C, dx, fs, _, rfl, hx, c, n, lk, L, xs, rfl, .inl (SqL.of hL), k⟩
end
end K1
namespace K1
open PySem PySem.Spec PyProof.Rows L2 LK RZ
mutual
/-- a written datum: scalars, what was there, tuples and lists of such -/
inductive LitE (K : PySem.W.Frag) (c : Addr) (H0 : Hp) (σ : L2.St) : TE → PyData → Prop
  | val {te : TE} {v : V} {d : PyData} (h : ∀ H Q, Q v H → te σ H Q) (hd : Dp K (hide c H0) v d) : LitE K c H0 σ te d
  | tup {ta : TA} {ds : List PyData} (h : LitA K c H0 σ ta ds) (n : ds.length ≤ 1000) : LitE K c H0 σ (tTup ta) (.tuple ds)
  | lst {ta : TA} {ds : List PyData} (h : LitA K c H0 σ ta ds) (n : ds.length ≤ 1000) : LitE K c H0 σ (tLst ta) (.list ds)
inductive LitA (K : PySem.W.Frag) (c : Addr) (H0 : Hp) (σ : L2.St) : TA → List PyData → Prop
  | nil : LitA K c H0 σ tNil []
  | cons {te : TE} {ta : TA} {d : PyData} {ds : List PyData} (h : LitE K c H0 σ te d) (r : LitA K c H0 σ ta ds) : LitA K c H0 σ (tCons te ta) (d :: ds)
end
mutual
theorem lit_e {K : PySem.W.Frag} {c : Addr} {H0 : Hp} {σ : L2.St} {B : Nat} : ∀ {te : TE} {d : PyData}, LitE K c H0 σ te d → ∀ {Hn : Hp} {Q : VK}, Same H0 Hn → CR Hn c B → (∀ Hn' v, Same Hn Hn' → Dp K (hide c Hn') v d → Q v Hn') → te σ Hn Q
  | _, _, .val h hd, Hn, Q, s, hc, k => h Hn Q (k Hn _ (Same.refl Hn) (dp_same (hide_bt (Bt.of s)) hd))
  | _, _, .tup h n, Hn, Q, s, hc, k => lit_a h s hc fun Hn' vs s' hv => by
      refine ⟨?_, fun p np => ?_⟩
      · rw [dps_len hv]
        exact Nat.le_trans n sz1000
      · refine k _ _ (fun b o e => same_new np b o (s' b o e)) (.tup (.inl (.inl (hide_at ((hc.same s').fresh np).symm upd_same))) (dps_same (hide_bt (Bt.of (same_new np))) hv))
  | _, _, .lst h n, Hn, Q, s, hc, k => lit_a h s hc fun Hn' vs s' hv => by
      refine ⟨?_, fun p np => ?_⟩
      · rw [dps_len hv]
        exact Nat.le_trans n sz1000
      · refine k _ _ (fun b o e => same_new np b o (s' b o e)) (.lst (SqL.of (hide_at ((hc.same s').fresh np).symm upd_same)) (dps_same (hide_bt (Bt.of (same_new np))) hv))
theorem lit_a {K : PySem.W.Frag} {c : Addr} {H0 : Hp} {σ : L2.St} {B : Nat} : ∀ {ta : TA} {ds : List PyData}, LitA K c H0 σ ta ds → ∀ {Hn : Hp} {R : List V → Hp → Prop}, Same H0 Hn → CR Hn c B → (∀ Hn' vs, Same Hn Hn' → DpAll K (hide c Hn') vs ds → R vs Hn') → ta σ Hn R
  | _, _, .nil, Hn, R, s, hc, k => k Hn [] (Same.refl Hn) .nil
  | _, _, .cons h r, Hn, R, s, hc, k => lit_e h s hc fun H1 v s1 hv => lit_a r (fun b o e => s1 b o (s b o e)) (hc.same s1) fun H2 vs s2 hvs => k H2 _ (fun b o e => s2 b o (s1 b o e)) (.cons (dp_same (hide_bt (Bt.of s2)) hv) hvs)
end
end K1
namespace K1
open PySem PySem.Spec PyProof.Rows L2 LK RZ
theorem lit_l {K : PySem.W.Frag} {c : Addr} {H0 : Hp} {σ : L2.St} {B : Nat} {ta : TA} {ds : List PyData} (h : LitA K c H0 σ ta ds) (n : ds.length ≤ 1000) {Hn : Hp} {Q : VK} (s : Same H0 Hn) (hc : CR Hn c B)
    (k : ∀ Hn' p vs, Same Hn Hn' → p ≠ c → Hn p = none → Hn' p = some (.lst vs) → DpAll K (hide c Hn') vs ds → Q (.ref p) Hn') : tLst ta σ Hn Q := lit_a h s hc fun Hn' vs s' hv => by
  refine ⟨?_, fun p np => ?_⟩
  · rw [dps_len hv]
    exact Nat.le_trans n sz1000
  · refine k _ p vs (fun b o e => same_new np b o (s' b o e)) ((hc.same s').fresh np).symm ?_ upd_same (dps_same (hide_bt (Bt.of (same_new np))) hv)
    cases e : Hn p with
    | none => rfl
    | some o => rw [s' _ _ e] at np; cases np
/-- the things that a bent list may get, but the first -/
def bents (k : Int) : List PyData := [.tuple [.str "Ann", .tuple []], .tuple [.str "abcdefghi", .tuple []], .tuple [.str "a", .list [.int 0]], .tuple [.str "a"], .tuple [.str "a", .tuple [], .tuple []], .list [.str "a", .tuple []], .tuple [.int 1, .tuple []], .tuple [.str "a", .int 0]]
  ++ [.tuple [.str "a1", .tuple []], .tuple [.str "", .tuple []], .tuple [.str "a", .tuple [.int k]], .tuple [.str "a", .tuple [.int 0, .int 0]], .tuple [.str "a", .tuple [.int 1, .int 0]], .tuple [.str "a", .tuple [.int (-1)]], .tuple [.str "a", .tuple [.bool true]]]
  ++ [.tuple [.str "a", .tuple [.str "0"]], .tuple [.str "b", .tuple [.int 0]], .tuple [.str "c", .tuple []]]
theorem cut_drop {xs : List V} {i : Nat} : cutV xs (some (i : Int)) none = xs.drop i := by
  unfold cutV
  rw [HT.sIx_nat, HT.sIx_none]
  by_cases h : i ≤ xs.length
  · rw [Nat.min_eq_left h]
    exact List.take_of_length_le (by simp)
  · rw [Nat.min_eq_right (by omega), List.drop_length, List.drop_of_length_le (by omega), List.take_nil]
theorem dps_take {K : PySem.W.Frag} {H : Hp} : ∀ {vs : List V} {ds : List PyData} (n : Nat), DpAll K H vs ds → DpAll K H (vs.take n) (ds.take n)
  | _, _, 0, _ => by simpa using .nil
  | _, _, n + 1, .nil => .nil
  | _, _, n + 1, .cons a r => .cons a (dps_take n r)
theorem dps_drop {K : PySem.W.Frag} {H : Hp} : ∀ {vs : List V} {ds : List PyData} (n : Nat), DpAll K H vs ds → DpAll K H (vs.drop n) (ds.drop n)
  | _, _, 0, h => h
  | _, _, n + 1, .nil => .nil
  | _, _, n + 1, .cons _ r => dps_drop n r
theorem asgI {te : TE} {g : TG} {R : TS} {D : Ends} {σ : L2.St} {H : Hp} (h : te σ H fun x H1 => g x σ H1 (R D)) : tSeq (tAsg te g) R D σ H := h
theorem bents_ok (k : Int) : tameAll (bents k) = true ∧ PyData.canLayAll0 (bents k) = true ∧ PyData.depthAll (bents k) ≤ 2 := ⟨by rfl, by simp only [bents, List.cons_append, List.nil_append, PyData.canLayAll0, PyData.canLay0, Bool.and_true, Bool.true_and]; decide +kernel, by simp [bents, PyData.depthAll, PyData.depth]⟩
theorem nice_at : ∀ {ds : List PyData} {d : PyData}, (neatAll ds && ds.all fun d => decide (d.weight ≤ 400)) = true → d ∈ ds → Nice d := fun {ds d} h hd => by
  rw [Bool.and_eq_true] at h
  refine ⟨?_, of_decide_eq_true (List.all_eq_true.mp h.2 d hd)⟩
  have q : ∀ {ds : List PyData}, neatAll ds = true → ∀ d ∈ ds, neat d = true := by
    intro ds
    induction ds with
    | nil => exact fun _ d hd => absurd hd List.not_mem_nil
    | cons x r ih =>
      intro h d hd
      rw [neatAll, Bool.and_eq_true] at h
      rcases List.mem_cons.mp hd with rfl | hd
      · exact h.1
      · exact ih h.2 d hd
  exact q h.1 d hd
theorem bents_nice {k : Int} (k0 : 0 ≤ k) (k1 : k ≤ 2000) {d : PyData} (h : d ∈ bents k) : Nice d := by
  have nk := nice_int (i := k) (Nat.lt_of_le_of_lt (show k.natAbs ≤ 2000 by omega) (by decide))
  by_cases e : d = .tuple [.str "a", .tuple [.int k]]
  · subst e
    refine ⟨?_, ?_⟩
    · show (neat (.str "a") && (neatAll [.int k] && true)) = true
      rw [neatAll, nk.1]
      decide +kernel
    · have w1 : (PyData.int k).weight ≤ 140 := by
        unfold PyData.weight
        split
        · exact Nat.zero_le _
        · have := log_of (of_decide_eq_true nk.1)
          omega
      have w2 : (PyData.tuple [.str "a", .tuple [.int k]]).weight = 1 + 1 + ((PyData.int k).weight + 1 + 0 + 1 + 0) := by
        simp only [PyData.weight, PyData.weightAll]
        rfl
      omega
  · refine nice_at (ds := (bents 0)) (by decide +kernel) ?_
    simp only [bents, List.cons_append, List.nil_append, List.mem_cons, List.not_mem_nil, or_false] at h ⊢
    rcases h with h | h | h | h | h | h | h | h | h | h | h | h | h | h | h | h | h | h <;> first | exact absurd h e | simp [h]
def spBent (K : PySem.W.Frag) : Sp := fun vs H Q _ => ∃ (c a : Addr) (B : Nat) (xs : List V) (ds : List PyData), vs = [.ref c, .ref a] ∧ CR H c B ∧ B + 10 < 10 ^ 12 ∧ a ≠ c ∧ H a = some (.lst xs) ∧ DpAll K (hide c H) xs ds ∧ ds.length ≤ 500 ∧
  ∀ (H' : Hp) (p : Addr) (ys : List V) (k q : Nat) (d : PyData), H p = none → p ≠ c → H' p = some (.lst ys) → DpAll K (hide c H') ys (ds.take k ++ [d] ++ ds.drop (k + q)) → CR H' c (B + 10) → Bt c H H' → tame d = true → d.canLay0 = true → d.depth ≤ 2 → Nice d → Q (.ref p) H'
section
variable {P : Program} {w : World} {K : PySem.W.Frag} {mg : Str → Option Value} {base : Heap}
abbrev sBent : Stmt := top 34
theorem scBent : FnScope ["creel", "loops_here", "k", "odd", "some"] ["creel", "loops_here"] (defScope sBent) := ⟨rfl, rfl, rfl, by decide +kernel, rfl, by decide +kernel, by decide +kernel⟩
theorem ok_Bent {f : Addr} {fd : FuncData} (F : Fun K "_law_bent_loops" "_law_bent_loops" sBent f fd) (B : Bl mg) {fp : Addr} {fdp : FuncData} (Gp : FnOk P w K mg base CX0 1 fp fdp ["creel", "span"] spPly) (gp : mg "_law_ply" = some (.ref fp)) (kp : PySem.W.keepIn K (.ref fp) = true) (bp : Binds K fdp ["creel", "span"] []) {fo : Addr} {fdo : FuncData} (Go : FnOk P w K mg base CX0 2 fo fdo ["creel", "count"] (spOdd K)) (go : mg "_law_odd_thing" = some (.ref fo)) (ko : PySem.W.keepIn K (.ref fo) = true) (bo : Binds K fdo ["creel", "count"] []) : FnOk P w K mg base CX0 3 f fd ["creel", "loops_here"] (spBent K) := by
  refine F.ok scBent (fun vs H Q E h => ?_) (fun cdv A outer s H vs Q E hr h => ?_)
  · obtain ⟨c, a, bb, xs, ds, rfl, _⟩ := h
    rfl
  · obtain ⟨c, a, bb, xs, ds, rfl, hc, hB, ac, ha, hd, ln, k⟩ := h
    refine ⟨_, pss_cons (ps_par (i := 2) (j := 3) rfl scBent.nd rfl rfl (by decide) rfl rfl (pa_cons (pe_call (E := E0) Gp (hr.mono (by decide)) rfl gp kp bp .nil pass0 (pa_cons (pv 0) (pa_cons (pe_op op_add (pe_callB call_len_seq (by rfl) (B "len" (by decide)) (by decide +kernel) (pa_cons (pv 1) pa_nil)) pe_int) pa_nil))) (pa_cons (pe_call (E := E0) Go (hr.mono (by decide)) rfl go ko bo .nil pass0 (pa_cons (pv 0) (pa_cons (pe_callB call_len_seq (by rfl) (B "len" (by decide)) (by decide +kernel) (pa_cons (pv 1) pa_nil)) pa_nil))) pa_nil)) (by rfl))
      (pss_cons (ps_set (i := 4) scBent.nd rfl (Or.inl rfl) (pe_lst (pa_cons (pv 3) (pa_cons (pe_tup (pa_cons pe_str (pa_cons (pe_tup pa_nil) pa_nil))) (pa_cons (pe_tup (pa_cons pe_str (pa_cons (pe_tup pa_nil) pa_nil))) (pa_cons (pe_tup (pa_cons pe_str (pa_cons (pe_lst (pa_cons pe_int pa_nil)) pa_nil))) (pa_cons (pe_tup (pa_cons pe_str pa_nil)) (pa_cons (pe_tup (pa_cons pe_str (pa_cons (pe_tup pa_nil) (pa_cons (pe_tup pa_nil) pa_nil)))) (pa_cons (pe_lst (pa_cons pe_str (pa_cons (pe_tup pa_nil) pa_nil))) (pa_cons (pe_tup (pa_cons pe_int (pa_cons (pe_tup pa_nil) pa_nil))) (pa_cons (pe_tup (pa_cons pe_str (pa_cons pe_int pa_nil))) pa_nil)))))))))))
      (pss_cons (ps_set (i := 4) scBent.nd rfl (Or.inl rfl) (pe_op op_cat (pv 4) (pe_lst (pa_cons (pe_tup (pa_cons pe_str (pa_cons (pe_tup pa_nil) pa_nil))) (pa_cons (pe_tup (pa_cons pe_str (pa_cons (pe_tup pa_nil) pa_nil))) (pa_cons (pe_tup (pa_cons pe_str (pa_cons (pe_tup (pa_cons (pv 2) pa_nil)) pa_nil))) (pa_cons (pe_tup (pa_cons pe_str (pa_cons (pe_tup (pa_cons pe_int (pa_cons pe_int pa_nil))) pa_nil))) (pa_cons (pe_tup (pa_cons pe_str (pa_cons (pe_tup (pa_cons pe_int (pa_cons pe_int pa_nil))) pa_nil))) (pa_cons (pe_tup (pa_cons pe_str (pa_cons (pe_tup (pa_cons (pe_un un_neg pe_int) pa_nil)) pa_nil))) (pa_cons (pe_tup (pa_cons pe_str (pa_cons (pe_tup (pa_cons pe_bl pa_nil)) pa_nil))) pa_nil))))))))))
      (pss_cons (ps_set (i := 4) scBent.nd rfl (Or.inl rfl) (pe_op op_cat (pv 4) (pe_lst (pa_cons (pe_tup (pa_cons pe_str (pa_cons (pe_tup (pa_cons pe_str pa_nil)) pa_nil))) (pa_cons (pe_tup (pa_cons pe_str (pa_cons (pe_tup (pa_cons pe_int pa_nil)) pa_nil))) (pa_cons (pe_tup (pa_cons pe_str (pa_cons (pe_tup pa_nil) pa_nil))) pa_nil))))))
      (pss_one (ps_ret (pe_op op_cat (pe_op op_cat (pe_slice sl_list (pv 1) po_none (po_some (pv 2))) (pe_lst (pa_cons (pe_ix ix_list (pv 4) (pe_call (E := E0) Gp (hr.mono (by decide)) rfl gp kp bp .nil pass0 (pa_cons (pv 0) (pa_cons (pe_callB call_len_seq (by rfl) (B "len" (by decide)) (by decide +kernel) (pa_cons (pv 4) pa_nil)) pa_nil))) (fun _ _ => rfl)) pa_nil))) (pe_slice sl_list (pv 1) (po_some (pe_op op_add (pv 2) (pe_call (E := E0) Gp (hr.mono (by decide)) rfl gp kp bp .nil pass0 (pa_cons (pv 0) (pa_cons pe_int pa_nil))))) po_none))))))), ?_⟩
    have xl := dps_len hd
    refine ⟨_, rfl, _, rfl, a, xs, rfl, .inl (SqL.of ha), _, _, rfl, rfl, c, _, bb, rfl, by omega, by omega, hc, by omega, fun kk H1 k0 k1 c1 b1 n1 => ?_⟩
    have ha1 := b1 _ _ ac ha
    refine ⟨_, rfl, _, rfl, a, xs, rfl, .inl (SqL.of ha1), c, _, bb + 1, rfl, by omega, by omega, c1, by omega, fun H2 od d c2 b2 hod tmd layd dpd nid => ⟨_, _, rfl, ?_⟩⟩
    have ha2 := b2 _ _ ac ha1
    have b12 : Bt c H H2 := b1.trans b2
    have sg : ∀ {σ : L2.St} (s : Str), LitE K c H2 σ (tC (.str s)) (.str s) := fun {σ} s => .val (fun _ _ q => q) (.str s)
    have ig : ∀ {σ : L2.St} (i : Int), LitE K c H2 σ (tC (.int i)) (.int i) := fun {σ} i => .val (fun _ _ q => q) (.int i)
    have te : ∀ {σ : L2.St}, LitE K c H2 σ (tTup tNil) (.tuple []) := fun {σ} => .tup .nil (by simp)
    dsimp only
    refine asgI ?_
    refine lit_l (K := K) (c := c) (H0 := H2) (.cons (d := d) (.val (fun H Q q => ⟨_, rfl, q⟩) hod) (.cons (.tup (.cons (sg _) (.cons te .nil)) (by simp)) (.cons (.tup (.cons (sg _) (.cons te .nil)) (by simp)) (.cons (.tup (.cons (sg _) (.cons (.lst (.cons (ig _) .nil) (by simp)) .nil)) (by simp)) (.cons (.tup (.cons (sg _) .nil) (by simp)) (.cons (.tup (.cons (sg _) (.cons te (.cons te .nil))) (by simp)) (.cons (.lst (.cons (sg _) (.cons te .nil)) (by simp)) (.cons (.tup (.cons (ig _) (.cons te .nil)) (by simp)) (.cons (.tup (.cons (sg _) (.cons (ig _) .nil)) (by simp)) .nil)))))))))
      (by show 9 ≤ 1000; decide) (Same.refl _) c2 (fun H3 S1 v1 s3 nc1 nS1 hS1 hv1 => ?_)
    dsimp only [gName]
    refine asgI ?_
    have c3 := c2.same s3
    refine ⟨_, rfl, ?_⟩
    refine lit_l (K := K) (c := c) (H0 := H2) (.cons (.tup (.cons (sg _) (.cons te .nil)) (by simp)) (.cons (.tup (.cons (sg _) (.cons te .nil)) (by simp)) (.cons (.tup (.cons (sg _) (.cons (.tup (.cons (.val (d := .int kk) (fun H Q q => ⟨_, rfl, q⟩) (.int kk)) .nil) (by simp)) .nil)) (by simp)) (.cons (.tup (.cons (sg _) (.cons (.tup (.cons (ig _) (.cons (ig _) .nil)) (by simp)) .nil)) (by simp)) (.cons (.tup (.cons (sg _) (.cons (.tup (.cons (ig _) (.cons (ig _) .nil)) (by simp)) .nil)) (by simp)) (.cons (.tup (.cons (sg _) (.cons (.tup (.cons (.val (d := .int (-1)) (fun H Q q => ⟨1, rfl, q⟩) (.int (-1))) .nil) (by simp)) .nil)) (by simp)) (.cons (.tup (.cons (sg _) (.cons (.tup (.cons (.val (d := .bool true) (fun _ _ q => q) (.bl true)) .nil) (by simp)) .nil)) (by simp)) (.nil)))))))) (by simp) s3 c3 (fun H4 S2 v2 s4 nc2 nS2 hS2 hv2 => ?_)
    have e1 := dps_len hv1
    have e2 := dps_len hv2
    refine ⟨S1, S2, v1, v2, rfl, rfl, s4 _ _ hS1, hS2, ?_, fun S3 nS3 => ?_⟩
    · rw [e1, e2]
      show 9 + 7 ≤ sizeLine
      decide
    have s5 := same_new (o := .lst (v1 ++ v2)) nS3
    have hS3 := upd_same (H := H4) (a := S3) (o := .lst (v1 ++ v2))
    have nc3 : S3 ≠ c := ((c3.same s4).fresh nS3).symm
    generalize L2.upd H4 S3 (.lst (v1 ++ v2)) = H5 at *
    dsimp only [gName]
    refine asgI ?_
    have c5 := (c3.same s4).same s5
    have s25 : Same H2 H5 := fun b o e => s5 b o (s4 b o (s3 b o e))
    refine ⟨_, rfl, ?_⟩
    refine lit_l (K := K) (c := c) (H0 := H2) (.cons (.tup (.cons (sg _) (.cons (.tup (.cons (sg _) .nil) (by simp)) .nil)) (by simp)) (.cons (.tup (.cons (sg _) (.cons (.tup (.cons (ig _) .nil) (by simp)) .nil)) (by simp)) (.cons (.tup (.cons (sg _) (.cons te .nil)) (by simp)) (.nil)))) (by simp) s25 c5 (fun H6 S4 v3 s6 nc4 nS4 hS4 hv3 => ?_)
    have e3 := dps_len hv3
    refine ⟨S3, S4, _, v3, rfl, rfl, s6 _ _ hS3, hS4, ?_, fun S5 nS5 => ?_⟩
    · rw [List.length_append, e1, e2, e3]
      show 9 + 7 + 3 ≤ sizeLine
      decide
    have s7 := same_new (o := .lst (v1 ++ v2 ++ v3)) nS5
    have hS5 := upd_same (H := H6) (a := S5) (o := .lst (v1 ++ v2 ++ v3))
    have nc5 : S5 ≠ c := ((c5.same s6).fresh nS5).symm
    generalize L2.upd H6 S5 (.lst (v1 ++ v2 ++ v3)) = H7 at *
    have c7 := (c5.same s6).same s7
    have s27 : Same H2 H7 := fun b o e => s7 b o (s6 b o (s25 b o e))
    have s37 : Same H3 H7 := fun b o e => s7 b o (s6 b o (s5 b o (s4 b o e)))
    have s47 : Same H4 H7 := fun b o e => s7 b o (s6 b o (s5 b o e))
    have all : DpAll K (hide c H7) (v1 ++ v2 ++ v3) (d :: bents kk) := dps_app (dps_app (dps_same (hide_bt (Bt.of s37)) hv1) (dps_same (hide_bt (Bt.of s47)) hv2)) (dps_same (hide_bt (Bt.of s7)) hv3)
    dsimp only [gName]
    have ha7 := s27 _ _ ha2
    have b07 : Bt c H H7 := b12.trans (Bt.of s27)
    obtain ⟨kn, rfl⟩ := Int.eq_ofNat_of_zero_le k0
    have al := dps_len all
    have bl : (d :: bents (kn : Int)).length = 19 := rfl
    refine ⟨_, rfl, _, rfl, _, rfl, a, xs, rfl, SqL.of ha7, fun P1 nP1 => ?_⟩
    rw [cut_take (by omega)]
    have t1 := same_new (o := .lst (xs.take kn)) nP1
    have hP1 := upd_same (H := H7) (a := P1) (o := .lst (xs.take kn))
    have nP1c : P1 ≠ c := (c7.fresh nP1).symm
    generalize L2.upd H7 P1 (.lst (xs.take kn)) = H8 at *
    have c8 := c7.same t1
    have hS58 := t1 _ _ hS5
    refine ⟨_, rfl, _, rfl, _, rfl, S5, _, rfl, .inl (SqL.of hS58), c, _, _, rfl, by omega, by omega, c8, by omega, fun q H9 q0 q1 c9 b9 n9 => ?_⟩
    have hS59 := b9 _ _ nc5 hS58
    have hP19 := b9 _ _ nP1c hP1
    obtain ⟨x, d1, hx, hd1, dx⟩ := dps_at all (i := q.toNat) (by omega)
    have atq : atI (v1 ++ v2 ++ v3) q = some x := by
      have := atI_nat hx
      rwa [show ((q.toNat : Nat) : Int) = q by omega] at this
    refine ⟨S5, _, _, x, rfl, rfl, SqL.of hS59, atq, (by show 1 ≤ sizeLine; decide), fun P2 nP2 => ?_⟩
    have t2 := same_new (o := .lst [x]) nP2
    have hP2 := upd_same (H := H9) (a := P2) (o := .lst [x])
    generalize L2.upd H9 P2 (.lst [x]) = H10 at *
    have tkl : (xs.take kn).length ≤ 500 := by
      rw [List.length_take]
      omega
    refine ⟨P1, P2, _, _, rfl, rfl, t2 _ _ hP19, hP2, ?_, fun P3 nP3 => ?_⟩
    · exact Nat.le_trans (by simp only [List.length_singleton]; omega : (xs.take kn).length + [x].length ≤ 1000) sz1000
    have t3 := same_new (o := .lst (xs.take kn ++ [x])) nP3
    have hP3 := upd_same (H := H10) (a := P3) (o := .lst (xs.take kn ++ [x]))
    have c10 := c9.same t2
    have nP3c : P3 ≠ c := (c10.fresh nP3).symm
    generalize L2.upd H10 P3 (.lst (xs.take kn ++ [x])) = H11 at *
    have c11 := c10.same t3
    have b811 : Bt c H8 H11 := (b9.trans (Bt.of t2)).trans (Bt.of t3)
    refine ⟨_, rfl, _, rfl, _, rfl, c, 2, _, rfl, by decide, by decide, c11, by omega, fun q2 H12 q20 q21 c12 b12' n12 => ⟨_, _, rfl, rfl, _, rfl, ?_⟩⟩
    have b812 := b811.trans b12'
    have ha12 := b812 _ _ ac (t1 _ _ ha7)
    have hP312 := b12' _ _ nP3c hP3
    refine ⟨a, xs, rfl, SqL.of ha12, fun P4 nP4 => ?_⟩
    obtain ⟨qn, rfl⟩ := Int.eq_ofNat_of_zero_le q20
    rw [show ((kn : Int) + (qn : Int)) = ((kn + qn : Nat) : Int) by omega, cut_drop]
    have t4 := same_new (o := .lst (xs.drop (kn + qn))) nP4
    have hP4 := upd_same (H := H12) (a := P4) (o := .lst (xs.drop (kn + qn)))
    generalize L2.upd H12 P4 (.lst (xs.drop (kn + qn))) = H13 at *
    refine ⟨P3, P4, _, _, rfl, rfl, t4 _ _ hP312, hP4, ?_, fun P5 nP5 => ?_⟩
    · refine Nat.le_trans ?_ (show 2000 ≤ sizeLine by decide)
      rw [List.length_append, List.length_drop]
      simp only [List.length_singleton]
      omega
    have t5 := same_new (o := .lst (xs.take kn ++ [x] ++ xs.drop (kn + qn))) nP5
    have b713 : Bt c H7 (L2.upd H13 P5 (.lst (xs.take kn ++ [x] ++ xs.drop (kn + qn)))) := (((Bt.of t1).trans b812).trans (Bt.of t4)).trans (Bt.of t5)
    have bal := b07.trans b713
    have c13 := (c12.same t4).same t5
    obtain ⟨g1, g2, g3⟩ := bents_ok (kn : Int)
    have m1 : d1 ∈ d :: bents (kn : Int) := List.mem_of_getElem? hd1
    have hdx := dps_same (hide_bt bal) hd
    refine k _ P5 _ kn qn d1 ?_ ?_ upd_same (dps_app (dps_app (dps_take kn hdx) (.cons (dp_same (hide_bt b713) dx) .nil)) (dps_drop _ hdx)) (c13.mono (by omega)) bal ?_ ?_ ?_ ?_
    · cases e : H P5 with
      | none => rfl
      | some o =>
        have n5 : P5 ≠ c := ((c12.same t4).fresh nP5).symm
        rw [t4 _ _ (b812 _ _ n5 (t1 _ _ (b07 _ _ n5 e)))] at nP5
        cases nP5
    · exact ((c12.same t4).fresh nP5).symm
    · rcases List.mem_cons.mp m1 with rfl | m
      · exact tmd
      · exact tame_mem g1 m
    · rcases List.mem_cons.mp m1 with rfl | m
      · exact layd
      · exact lay_mem g2 m
    · rcases List.mem_cons.mp m1 with rfl | m
      · exact dpd
      · exact Nat.le_trans (depth_mem m) g3
    · rcases List.mem_cons.mp m1 with rfl | m
      · exact nid
      · exact bents_nice (by omega) (by omega) m
end
end K1
namespace K1
open PySem PySem.Spec PyProof.Rows L2 L2H LK RZ MXb MXd MXe MXf MXg MXj MXl
/-- a suite's reading where the error is of an own class and has a dict -/
def tErr (t : Addr → Addr → Addr → TS) : Addr → Value → Option Addr → TS := fun a cls d => match cls, d with
  | .ref C, some dd => t a C dd
  | _, _ => fun _ _ _ => False
theorem ps_err {X : Cx} {st : List Stmt} {a : Addr} {oe : Obj} {cls : Value} {d : Option Addr} {pn : List (Addr × Obj)} {t : Addr → Addr → Addr → TS} (hz : L2N.Zn cls d oe) (hf : ∃ vs, oe.data = .fields vs)
    (h : ∀ C dd, ErrP C dd (a, oe) → PSs (X.suite a ((a, oe) :: pn)) st (t a C dd)) : PSs (X.suite a ((a, oe) :: pn)) st (tErr t a cls d) := by
  match cls, d with
  | .ref C, some dd => exact h C dd ⟨hz.zc, hf⟩
  | .ref _, none => exact pss_no
  | .none, _ => exact pss_no
  | .ellipsis, _ => exact pss_no
  | .notImplemented, _ => exact pss_no
  | .bool _, _ => exact pss_no
  | .int _ _, _ => exact pss_no
  | .float _ _, _ => exact pss_no
  | .str _ _, _ => exact pss_no
  | .bytes _ _, _ => exact pss_no
  | .type _, _ => exact pss_no
  | .builtin _, _ => exact pss_no
abbrev sMade : Stmt := top 31
/-- what the law says of the errors' classes -/
structure ErK (K : PySem.W.Frag) (mg : Str → Option Value) (CR CF CL CP : Addr) : Prop where
  gR : mg "RunError" = some (.ref CR)
  gP : mg "InvalidLoop" = some (.ref CP)
  ff : PySem.W.exmOne K (.ref CF) (.ref CF) = some true
  lf : PySem.W.exmOne K (.ref CL) (.ref CF) = some false
  ll : PySem.W.exmOne K (.ref CL) (.ref CL) = some true
  fR : PySem.W.kitOne K (.ref CF) (.ref CR) = some true
  lR : PySem.W.kitOne K (.ref CL) (.ref CR) = some true
  fO : PySem.W.kitAny K (.ref CF) [.ref CL, .ref CP] = some false
  lO : PySem.W.kitAny K (.ref CL) [.ref CF, .ref CP] = some false
/-- a made cloth at x: its loops and its fast ones as they were handed in -/
def Made (K : PySem.W.Frag) (CC : Addr) (H H' : Hp) (x : Addr) (ds : List PyData) (ms : List Int) : Prop := ∃ (dx L G : Addr) (xs : List V), H x = none ∧ H L = none ∧ H G = none ∧ L ≠ G ∧ x ≠ L ∧ x ≠ G ∧
  H' x = some (.ins CC dx [("_loops", .ref L), ("_fast", .ref G)]) ∧ H' L = some (.lst xs) ∧ DpAll K H' xs ds ∧ H' G = some (.lst (ms.map V.int)) ∧ Same H H'
def spMade (K : PySem.W.Frag) (CC : Addr) : Sp := fun vs H Q _ => ∃ (way : Int) (u v : V) (d e : PyData), vs = [.int way, u, v] ∧ Dp K H u d ∧ Dp K H v e ∧ tame d = true ∧ d.canLay0 = true ∧ tame e = true ∧
  (∀ s i t H', dueD d e = some (s, i) → H t = none → H' t = some (.tup [.str s, .int i]) → Same H H' → Q (.ref t) H') ∧
  ∀ (ds : List PyData) (ns ms : List Int) (x : Addr) (H' : Hp), dueD d e = none → d = .list ds → e = .list (ns.map PyData.int) → ms.Perm ns → ms.Pairwise (· ≤ ·) → Made K CC H H' x ds ms → Q (.ref x) H'
def gKw {α : Type} : List α → List α → List α := fun us ws => match ws with
  | [a, b] => us ++ [b, a]
  | _ => []
theorem gKw_rel {vs zs : List V} {us ws : List Value} (a : Vals vs us) (b : Vals zs ws) : Vals (gKw vs zs) (gKw us ws) := by
  unfold gKw
  match b with
  | .nil => exact .nil
  | .cons _ .nil => exact .nil
  | .cons r1 (.cons r2 .nil) => exact a.append (.cons r2 (.cons r1 .nil))
  | .cons _ (.cons _ (.cons _ _)) => exact .nil
theorem due_cases {d e : PyData} {s : Str} {i : Int} (h : dueD d e = some (s, i)) : s = "loops" ∨ s = "fast" := by
  unfold dueD at h
  split at h
  · cases h
    exact .inl rfl
  · cases d with
    | list ds =>
      obtain ⟨j, _, q⟩ := Option.map_eq_some_iff.mp h
      cases q
      exact .inr rfl
    | _ => cases h
theorem sqt_but {K : PySem.W.Frag} {H H' : Hp} {x a C dx : Addr} {fs : List (Str × V)} {xs : List V} (hx : H x = some (.ins C dx fs)) (s : But x H H') (h : SqT K H a xs) : SqT K H' a xs := by
  rcases h with (h | ⟨o, h⟩) | h
  · exact .inl (.inl (s _ _ (ne_of h hx (by intro q; cases q)) h))
  · exact .inl (.inr ⟨o, s _ _ (ne_of h hx (by intro q; cases q)) h⟩)
  · exact .inr h
mutual
theorem dp_but {K : PySem.W.Frag} {H H' : Hp} {x C dx : Addr} {fs : List (Str × V)} (hx : H x = some (.ins C dx fs)) (s : But x H H') : ∀ {v : V} {d : PyData}, Dp K H v d → Dp K H' v d
  | _, _, .non => .non
  | _, _, .bl b => .bl b
  | _, _, .int i => .int i
  | _, _, .str z => .str z
  | _, _, .lst q a => .lst (sql_but hx s q) (dps_but hx s a)
  | _, _, .tup q a => .tup (sqt_but hx s q) (dps_but hx s a)
theorem dps_but {K : PySem.W.Frag} {H H' : Hp} {x C dx : Addr} {fs : List (Str × V)} (hx : H x = some (.ins C dx fs)) (s : But x H H') : ∀ {vs : List V} {ds : List PyData}, DpAll K H vs ds → DpAll K H' vs ds
  | _, _, .nil => .nil
  | _, _, .cons a r => .cons (dp_but hx s a) (dps_but hx s r)
end
theorem none0 {X : Cx} : L2N.Takes X (fun _ _ _ _ => False) := fun _ _ x => by
  obtain ⟨_, _, _, _, _, _, _, _, _, _, _, _, _, _, _, _, z⟩ := x
  exact z.elim
section
variable {P : Program} {w : World} {K : PySem.W.Frag} {mg : Str → Option Value} {base : Heap} {fI CC CR CF CL CP fC : Addr} {fdC : FuncData}
theorem scMade : FnScope ["way", "loops_here", "fast_here", "found", "good", "e"] ["way", "loops_here", "fast_here"] (defScope sMade) := ⟨rfl, rfl, rfl, by decide +kernel, rfl, by decide +kernel, by decide +kernel⟩
def tSuite (K : PySem.W.Frag) (word : Str) (CE CR CA CP : Addr) : Addr → Addr → Addr → TS := fun a C d =>
  tPar 3 4 (tCons (tTup (tCons (tC (.str word)) (tCons (tXf a (.ref C) (some d) CE "value" (tVar 5)) tNil)))
    (tCons (tAndV (tCB (rIsP K a C d) (tCons (tVar 5) (tCons (tC (.ref CR)) tNil))) (tNotV (tCB (rIsPT K a C d) (tCons (tVar 5) (tCons (tTup (tCons (tC (.ref CA)) (tCons (tC (.ref CP)) tNil))) tNil))))) tNil))
theorem err_suite {word : Str} {CE CA a dd : Addr} {D : Ends} {H' : Hp} {i : Int} {x0 x1 x2 x3 x4 x5 : Option V} (ec : ExcC K CE) (kR : PySem.W.kitOne K (.ref CE) (.ref CR) = some true) (kO : PySem.W.kitAny K (.ref CE) [.ref CA, .ref CP] = some false)
    (hd : H' dd = some (.xd [("value", .int i)])) (k : ∀ t H3, H' t = none → H3 t = some (.tup [.str word, .int i]) → Same H' H3 → D.nx [x0, x1, x2, some (.ref t), some (.bl true), none] H3) :
    tErr (tSuite K word CE CR CA CP) a (.ref CE) (some dd) (L2N.fall 5 D) (([x0, x1, x2, x3, x4, x5] : L2.St).set 5 (some (.ref a))) H' := by
  dsimp only [tErr, tSuite]
  refine ⟨_, rfl, rfl, rfl, dd, _, _, rfl, hd, rfl, (by show 2 ≤ sizeLine; decide), fun t nt => ?_⟩
  have s1 := same_new (o := .tup [.str word, .int i]) nt
  refine ⟨_, rfl, ec, _, _, _, _, rfl, fun _ r => r, kR, s1 _ _ hd, _, rfl, LK.ifT rfl ?_⟩
  refine ⟨_, rfl, (by show 2 ≤ sizeLine; decide), fun tp ntp => ?_⟩
  have s2 := same_new (o := .tup [.ref CA, .ref CP]) ntp
  refine ⟨ec, tp, _, _, _, _, rfl, upd_same, .cons (.own _) (.cons (.own _) .nil), kO, s2 _ _ (s1 _ _ hd), _, rfl, _, _, rfl, ?_⟩
  exact k t _ nt (s2 _ _ upd_same) (s1.trans s2)
theorem ok_Made {f : Addr} {fd : FuncData} (F : Fun K "_law_made" "_law_made" sMade f fd) (B : Bl mg) (T : ErK K mg CR CF CL CP) (XF : XC K mg fI CF "InvalidFast" "value") (XL : XC K mg fI CL "InvalidLoops" "value")
    (MC : Mk K CC fC) (GC : FnOk P w K mg base (L2N.CX P w) 6 fC fdC ["self", "loops", "fast"] (spClo K CC CF CL)) (gC : mg "Cloth" = some (.ref CC)) (bC : Binds K fdC ["self", "loops", "fast"] []) (bK : KBn K fdC ["self", "loops", "fast"] 1 ["fast", "loops"] gKw gKw)
    (cc : Cls K CC) (n1 : NoAttr K CC "_loops") (n2 : NoAttr K CC "_fast") : FnOk P w K mg base CX0 8 f fd ["way", "loops_here", "fast_here"] (spMade K CC) := by
  refine F.ok scMade (fun vs H Q E h => ?_) (fun cdv A outer s H vs Q E hr h => ?_)
  · obtain ⟨way, u, v, d, e, rfl, _⟩ := h
    rfl
  · obtain ⟨way, u, v, d, e, rfl, hd, he, tm, lay, tme, k1, k2⟩ := h
    refine ⟨_, pss_cons (ps_asg (pe_tup (pa_cons pe_non (pa_cons pe_bl pa_nil))) (pg_tup rfl (pgs_cons (pg_name (i := 3) scMade.nd rfl (Or.inl rfl)) (pgs_cons (pg_name (i := 4) scMade.nd rfl (Or.inl rfl)) pgs_nil))))
      (pss_cons (L2N.ps_try_asL (i := 5) (l := [(.ref CF, tErr (tSuite K "fast" CF CR CL CP)), (.ref CL, tErr (tSuite K "loops" CL CR CF CP))])
          (tb := fun W => tAsg (tIf (tTest (tOp rEq (tVar 0) (tC (.int 0)))) (tMakeS CC (spClo K CC CF CL) (WE W) (tCons (tVar 1) (tCons (tVar 2) tNil))) (tMakeKS CC 2 (spClo K CC CF CL) gKw (WE W) (tCons (tVar 2) (tCons (tVar 1) tNil)))) (gName 3)) (out := fun _ _ _ _ => False) rfl rfl scMade.nd rfl rfl none0
          (fun W held xe tk _ => pss_one (ps_set (i := 3) scMade.nd rfl (Or.inl rfl) (by exact (pe_ifExp (tA := tTest (tOp rEq (tVar 0) (tC (.int 0)))) (by exact (pt_cmpR op_eq (pv 0) pe_int (nomark _))) (by exact pe_makeS MC GC (hr.mono (by decide)) rfl gC bC (fun σ => L2N.passAt tk σ) (by exact (pa_cons (pv 1) (pa_cons (pv 2) pa_nil)))) (by exact pe_makeKS (ks := (["fast", "loops"] : List Str)) MC GC (hr.mono (by decide)) rfl gC bK (fun σ => L2N.passAt tk σ) (by exact (pk_cons (pv 2) (pk_cons (pv 1) pk_nil)))))))) 
          (.cons ⟨rfl, by decide, Or.inl XF.gC⟩ (fun e o k d held hz hf => ps_err hz hf fun C dd ep => pss_one (ps_parH (i := 3) (j := 4) (hot_suite hz hf) scMade.nd rfl rfl (by decide) rfl rfl (by exact (pa_cons (pe_tup (pa_cons pe_str (pa_cons (pe_xf XF.xf XF.noF ep.z hf (pv 5)) pa_nil))) (pa_cons (pe_and (pe_callB (call_isP (p := (e, o)) List.mem_cons_self ep) (by rfl) (B "isinstance" (by decide)) (by decide +kernel) (pa_cons (pv 5) (pa_cons (pe_glob rfl T.gR (v := .ref CR) rfl) pa_nil))) (pe_one (pe_not (pe_callB (call_isPT (p := (e, o)) List.mem_cons_self ep) (by rfl) (B "isinstance" (by decide)) (by decide +kernel) (pa_cons (pv 5) (pa_cons (pe_tup (pa_cons (pe_glob rfl XL.gC (v := .ref CL) rfl) (pa_cons (pe_glob rfl T.gP (v := .ref CP) rfl) pa_nil))) pa_nil)))))) pa_nil))) (by rfl)))
          (.cons ⟨rfl, by decide, Or.inl XL.gC⟩ (fun e o k d held hz hf => ps_err hz hf fun C dd ep => pss_one (ps_parH (i := 3) (j := 4) (hot_suite hz hf) scMade.nd rfl rfl (by decide) rfl rfl (by exact (pa_cons (pe_tup (pa_cons pe_str (pa_cons (pe_xf XL.xf XL.noF ep.z hf (pv 5)) pa_nil))) (pa_cons (pe_and (pe_callB (call_isP (p := (e, o)) List.mem_cons_self ep) (by rfl) (B "isinstance" (by decide)) (by decide +kernel) (pa_cons (pv 5) (pa_cons (pe_glob rfl T.gR (v := .ref CR) rfl) pa_nil))) (pe_one (pe_not (pe_callB (call_isPT (p := (e, o)) List.mem_cons_self ep) (by rfl) (B "isinstance" (by decide)) (by decide +kernel) (pa_cons (pv 5) (pa_cons (pe_tup (pa_cons (pe_glob rfl XF.gC (v := .ref CF) rfl) (pa_cons (pe_glob rfl T.gP (v := .ref CP) rfl) pa_nil))) pa_nil)))))) pa_nil))) (by rfl))) .nil)))
      (pss_one (ps_ret (pe_ifExp (pt_val (pv 4)) (pv 3) pe_str)))), ?_⟩
    refine ⟨(by show 2 ≤ sizeLine; decide), fun t0 nt0 => ?_⟩
    refine ⟨t0, _, rfl, .inl (.inl upd_same), rfl, ?_⟩
    have s00 := same_new (o := .tup [V.non, V.bl true]) nt0
    have gone0 : ∀ {b : Addr}, (L2.upd H t0 (.tup [V.non, V.bl true])) b = none → H b = none := fun {b} z => by
      cases q : H b with
      | none => rfl
      | some o => rw [s00 _ _ q] at z; cases z
    replace hd := dp_same s00 hd
    replace he := dp_same s00 he
    replace k1 : ∀ s i t H', dueD d e = some (s, i) → (L2.upd H t0 (.tup [V.non, V.bl true])) t = none → H' t = some (.tup [.str s, .int i]) → Same (L2.upd H t0 (.tup [V.non, V.bl true])) H' → Q (.ref t) H' := fun s i t H' q n z sm => k1 s i t H' q (gone0 n) z (s00.trans sm)
    replace k2 : ∀ (ds : List PyData) (ns ms : List Int) (x : Addr) (H' : Hp), dueD d e = none → d = .list ds → e = .list (ns.map PyData.int) → ms.Perm ns → ms.Pairwise (· ≤ ·) → Made K CC (L2.upd H t0 (.tup [V.non, V.bl true])) H' x ds ms → Q (.ref x) H' := fun ds ns ms x H' q a b c e' ⟨dx, L, G, xs, z1, z2, z3, z4, z5, z6, z7, z8, z9, z10, z11⟩ => k2 ds ns ms x H' q a b c e' ⟨dx, L, G, xs, gone0 z1, gone0 z2, gone0 z3, z4, z5, z6, z7, z8, z9, z10, s00.trans z11⟩
    generalize L2.upd H t0 (.tup [V.non, V.bl true]) = H at *
    have clo : ∀ (Q1 : VK) (E1 : XK) (x dx : Addr), H x = none → H dx = none → dx ≠ x → (∀ i, dueD d e = some (("loops" : Str), i) → ∀ d' H', H d' = none → Same H H' → H' d' = some (.xd [("value", .int i)]) → E1 (.ref CL) (some d') H') →
        (∀ i, dueD d e = some (("fast" : Str), i) → ∀ d' H', H d' = none → Same H H' → H' d' = some (.xd [("value", .int i)]) → E1 (.ref CF) (some d') H') →
        (∀ (ds : List PyData) (ns ms : List Int) (H' : Hp), dueD d e = none → d = .list ds → e = .list (ns.map PyData.int) → ms.Perm ns → ms.Pairwise (· ≤ ·) → Made K CC H H' x ds ms → Q1 .non H') →
        spClo K CC CF CL [.ref x, u, v] (L2.upd (L2.upd H dx (.own x)) x (.ins CC dx [])) Q1 E1 := by
      intro Q1 E1 x dx nx ndx ne g1 g2 g3
      have s0 : Same H (L2.upd (L2.upd H dx (.own x)) x (.ins CC dx [])) := fun b o e => by
        rw [upd_ne (ne_of_none e nx), upd_ne (ne_of_none e ndx)]
        exact e
      have gone : ∀ {b : Addr}, (L2.upd (L2.upd H dx (.own x)) x (.ins CC dx [])) b = none → H b = none := fun {b} z => by
        cases q : H b with
        | none => rfl
        | some o => rw [s0 _ _ q] at z; cases z
      refine ⟨x, dx, u, v, d, e, rfl, upd_same, cc, n1, n2, dp_same s0 hd, dp_same s0 he, tm, lay, tme, fun i q d' H' nd' s' hd' => ?_, fun i q d' H' nd' s' hd' => ?_, fun ds ns ms L G H' xs q ed ee p1 p2 nL nG LG hx hL hxs hG bx => ?_⟩
      · exact g1 i q d' H' (gone nd') (s0.trans s') hd'
      · exact g2 i q d' H' (gone nd') (s0.trans s') hd'
      · have xL : x ≠ L := fun z => by rw [← z, upd_same] at nL; cases nL
        have xG : x ≠ G := fun z => by rw [← z, upd_same] at nG; cases nG
        refine g3 ds ns ms H' q ed ee p1 p2 ⟨dx, L, G, xs, nx, gone nL, gone nG, LG, xL, xG, hx, hL, ?_, hG, fun b o eb => bx b o (ne_of_none eb nx) (s0 b o eb)⟩
        exact dps_but upd_same bx hxs
    have fresh : ∀ {t : Addr} {H' H3 : Hp}, Same H H' → H' t = none → H t = none := fun {t H' H3} s z => by
      cases q : H t with
      | none => rfl
      | some o => rw [s _ _ q] at z; cases z
    refine ⟨_, _, rfl, _, _, rfl, rfl, ?_⟩
    refine ⟨_, rfl, rfl, _, rfl, ?_⟩
    by_cases w0 : way = 0
    · refine LK.ifT (by simp [w0]) ⟨_, rfl, _, rfl, fun x dx nx ndx ne => ?_⟩
      refine clo _ _ x dx nx ndx ne (fun i q d' H' nd' s' hd' => ?_) (fun i q d' H' nd' s' hd' => ?_) (fun ds ns ms H' q ed ee p1 p2 mk => ⟨rfl, ?_⟩)
      · refine ⟨false, T.lf, fun q => (nomatch q), fun _ => ⟨true, T.ll, fun _ a na => ?_, fun q => (nomatch q)⟩⟩
        exact err_suite XL.ec T.lR T.lO hd' fun t H3 nt ht s3 => ⟨_, rfl, _, rfl, LK.ifT rfl ⟨_, rfl, k1 "loops" i t H3 q (fresh (H3 := H3) s' nt) ht (s'.trans s3)⟩⟩
      · refine ⟨true, T.ff, fun _ a na => ?_, fun q => (nomatch q)⟩
        exact err_suite XF.ec T.fR T.fO hd' fun t H3 nt ht s3 => ⟨_, rfl, _, rfl, LK.ifT rfl ⟨_, rfl, k1 "fast" i t H3 q (fresh (H3 := H3) s' nt) ht (s'.trans s3)⟩⟩
      · exact ⟨_, rfl, _, rfl, LK.ifT rfl ⟨_, rfl, k2 ds ns ms x H' q ed ee p1 p2 mk⟩⟩
    · refine LK.ifF (by simp [w0]) ⟨_, rfl, _, rfl, rfl, fun x dx nx ndx ne => ?_⟩
      refine clo _ _ x dx nx ndx ne (fun i q d' H' nd' s' hd' => ?_) (fun i q d' H' nd' s' hd' => ?_) (fun ds ns ms H' q ed ee p1 p2 mk => ⟨rfl, ?_⟩)
      · refine ⟨false, T.lf, fun q => (nomatch q), fun _ => ⟨true, T.ll, fun _ a na => ?_, fun q => (nomatch q)⟩⟩
        exact err_suite XL.ec T.lR T.lO hd' fun t H3 nt ht s3 => ⟨_, rfl, _, rfl, LK.ifT rfl ⟨_, rfl, k1 "loops" i t H3 q (fresh (H3 := H3) s' nt) ht (s'.trans s3)⟩⟩
      · refine ⟨true, T.ff, fun _ a na => ?_, fun q => (nomatch q)⟩
        exact err_suite XF.ec T.fR T.fO hd' fun t H3 nt ht s3 => ⟨_, rfl, _, rfl, LK.ifT rfl ⟨_, rfl, k1 "fast" i t H3 q (fresh (H3 := H3) s' nt) ht (s'.trans s3)⟩⟩
      · exact ⟨_, rfl, _, rfl, LK.ifT rfl ⟨_, rfl, k2 ds ns ms x H' q ed ee p1 p2 mk⟩⟩
end
end K1
namespace K1
open PySem PySem.Spec PyProof.Rows L2 LK
abbrev sEq : Stmt := inClass (top 18) 10
/-- a cloth of no loops -/
def Bare (CC : Addr) (H : Hp) (x : Addr) : Prop := ∃ dx L G, H x = some (.ins CC dx [("_loops", .ref L), ("_fast", .ref G)]) ∧ H L = some (.lst []) ∧ H G = some (.lst [])
def BothBare (CC : Addr) : Addr → Addr → Hp → Prop := fun x y H => Bare CC H x ∧ Bare CC H y
section
variable {P : Program} {w : World} {K : PySem.W.Frag} {mg : Str → Option Value} {base : Heap} {CC : Addr}
theorem scEq : FnScope ["self", "other"] ["self", "other"] (defScope sEq) := ⟨rfl, rfl, rfl, by decide +kernel, rfl, by decide +kernel, by decide +kernel⟩
/-- the type of an instance of the class -/
structure InsTy (K : PySem.W.Frag) (C : Addr) : Prop where
  ty : ∀ {H : Hp} {x dx : Addr} {fs : List (Str × V)}, H x = some (.ins C dx fs) → TyX K H (.ref x) (.ref C)
  own : PySem.W.kitOne K (.ref C) (.ref C) = some true
  tup : PySem.W.kitOne K (.ref C) (.type "tuple") = some false
theorem ok_Eq {f : Addr} {fd : FuncData} (F : Fun K "__eq__" "Cloth.__eq__" sEq f fd) (B : Bl mg) (gC : mg "Cloth" = some (.ref CC)) (cc : Cls K CC) (n1 : NoAttr K CC "_loops") (n2 : NoAttr K CC "_fast") (it : InsTy K CC) : FnOk P w K mg base CX0 1 f fd ["self", "other"] (spEq (BothBare CC)) := by
  refine F.ok scEq (fun vs H Q E h => ?_) (fun cdv A outer s H vs Q E hr h => ?_)
  · obtain ⟨a, b, rfl, _⟩ := h
    rfl
  · obtain ⟨a, b, rfl, ⟨⟨dx, L, G, hx, hL, hG⟩, dy, M, N, hy, hM, hN⟩, k⟩ := h
    refine ⟨_, pss_one (ps_ret (pe_and (pe_callB call_isi (by rfl) (B "isinstance" (by decide)) (by decide +kernel) (pa_cons (pv 1) (pa_cons (pe_glob rfl gC (v := .ref CC) rfl) pa_nil))) (pe_and (pe_cmpR (op_eqD hr.units) (pe_fld (pv 0) rfl) (pe_fld (pv 1) rfl) (nomark _)) (pe_one (pe_cmpR (op_eqD hr.units) (pe_fld (pv 0) rfl) (pe_fld (pv 1) rfl) (nomark _)))))), ?_⟩
    have e0 : ∀ {p : Addr}, H p = some (.lst []) → Dp K H (.ref p) (.list []) := fun q => .lst (SqL.of q) .nil
    refine ⟨_, rfl, _, _, _, _, true, rfl, .own CC, it.ty hy, it.own, _, rfl, LK.ifT rfl ?_⟩
    refine ⟨_, rfl, a, CC, dx, _, _, rfl, hx, cc, n1, rfl, _, rfl, b, CC, dy, _, _, rfl, hy, cc, n1, rfl, .list [], .list [], e0 hL, e0 hM, rfl, rfl, _, rfl, LK.ifT rfl ?_⟩
    exact ⟨_, rfl, a, CC, dx, _, _, rfl, hx, cc, n2, rfl, _, rfl, b, CC, dy, _, _, rfl, hy, cc, n2, rfl, .list [], .list [], e0 hG, e0 hN, rfl, rfl, k H Ext.rfl'⟩
end
end K1
namespace K1
open PySem PySem.Spec PyProof.Rows L2 LK MXn
abbrev sThr : Stmt := inClass (top 18) 3
/-- a loop's thread -/
def thrOf : PyData → Str
  | .tuple (.str s :: _) => s
  | _ => ⟨#[]⟩
/-- each is a pair with a thread ahead -/
def Pairs (ds : List PyData) : Prop := ∀ d ∈ ds, ∃ s p, d = .tuple [.str s, p]
def spNam (K : PySem.W.Frag) (C : Addr) : Sp := fun vs H Q _ => ∃ (x dx L : Addr) (fs : List (Str × V)) (xs : List V) (ds : List PyData), vs = [.ref x] ∧ H x = some (.ins C dx fs) ∧ Cls K C ∧ NoAttr K C "_loops" ∧ fs.lookup ("_loops" : Str) = some (.ref L) ∧ H L = some (.lst xs) ∧ DpAll K H xs ds ∧ Pairs ds ∧ ds.length ≤ 1000 ∧
  ∀ (ys : List Str) (p : Addr) (H' : Hp), sortedS ys = true → ys.Nodup → (∀ y, y ∈ ys ↔ y ∈ ds.map thrOf) → Same H H' → H p = none → H' p = some (.lst (ys.map V.str)) → Q (.ref p) H'
section
variable {P : Program} {w : World} {K : PySem.W.Frag} {mg : Str → Option Value} {base : Heap} {C : Addr}
theorem scThr : FnScope ["self", "thread", "_"] ["self"] (defScope sThr) := ⟨rfl, rfl, rfl, by decide +kernel, rfl, by decide +kernel, by decide +kernel⟩
theorem ok_Thr {f : Addr} {fd : FuncData} (F : Fun K "threads" "Cloth.threads" sThr f fd) (B : Bl mg) : FnOk P w K mg base CX0 1 f fd ["self"] (spNam K C) := by
  refine F.ok scThr (fun vs H Q E h => ?_) (fun cdv A outer s H vs Q E hr h => ?_)
  · obtain ⟨x, dx, L, fs, xs, ds, rfl, _⟩ := h
    rfl
  · obtain ⟨x, dx, L, fs, xs, ds, rfl, hx, c, n, lk, hL, hd, pr, ln, k⟩ := h
    refine ⟨_, pss_one (ps_ret (pe_callB (cr_sortT rfl) (by rfl) (B "sorted" (by decide)) (by decide +kernel) (pa_cons (pe_st (own := [("thread", 1), ("_", 2)]) (g := gTup K 2 (gCons (gName 1) (gCons (gName 2) gNil))) (tt := tYes) (te := tVar 1) rfl scThr.nd (pi_list (pe_fld (pv 0) rfl)) (blkOk_by (N := ["self", "thread", "_"]) (sc := defScope sThr) (by decide +kernel))
      (fun _ _ _ _ _ => pg_tup rfl (pgs_cons (pg_name (i := 1) scThr.nd rfl (Or.inl rfl)) (pgs_cons (pg_name (i := 2) scThr.nd rfl (Or.inl rfl)) pgs_nil))) (fun _ _ _ _ _ => pts_nil) (fun _ _ _ _ _ => pv 1)) pa_nil))), ?_⟩
    have xl := dps_len hd
    refine ⟨_, rfl, x, C, dx, fs, _, rfl, hx, c, n, lk, L, rfl, ⟨xs, SqL.of hL⟩, fun D nD => ?_⟩
    refine st_list (K := K) (a := L) (xs := xs) (fun i H' => ∃ (S : Str → Bool) (m : Nat), Same H H' ∧ H' D = some (SetTO w D S m) ∧ m ≤ i ∧ ∀ y, S y = true ↔ y ∈ (ds.take i).map thrOf)
      ⟨_, 0, same_new nD, upd_same, Nat.le_refl _, fun y => by simp⟩ (fun i H' _ hI => hI.choose_spec.choose_spec.1.seq (SqL.of hL)) (fun i v H' hv hI => ?_) (fun H' hI => ?_)
    · obtain ⟨S, m, s1, hD, mi, hS⟩ := hI
      have il : i < ds.length := by
        rw [← xl]
        exact (List.getElem?_eq_some_iff.mp hv).1
      obtain ⟨v', d, hv', hd', dv⟩ := dps_at hd il
      obtain rfl : v = v' := by
        rw [hv] at hv'
        exact Option.some.inj hv'
      obtain ⟨t, p, rfl⟩ := pr d (List.mem_of_getElem? hd')
      obtain ⟨a, zs, es, rfl, e0, sq, da⟩ := tup_of dv (by rfl)
      cases e0
      cases da with
      | cons d1 r =>
        cases d1
        cases r with
        | cons d2 r2 =>
          cases r2
          refine ⟨a, _, rfl, same_tup s1 sq, rfl, _, _, rfl, _, _, rfl, rfl, rfl, ?_⟩
          have far : m + 1 < scanBound := Nat.lt_of_le_of_lt (show m + 1 ≤ 1001 by omega) (by decide)
          have old : ∀ {o : HO}, Same H (L2.upd H' D o) := fun {o} b u e => by
            rw [upd_ne (ne_of_none e nD)]
            exact s1 b u e
          refine ⟨_, rfl, t, S, m, rfl, hD, far, _, _, old, upd_same, ?_, fun y => ?_⟩
          · split <;> omega
          · rw [Bool.or_eq_true, decide_eq_true_eq, hS y, List.take_add_one, hd', Option.toList_some, List.map_append, List.mem_append]
            simp [thrOf]
    · obtain ⟨S, m, s1, hD, mi, hS⟩ := hI
      rw [xl, List.take_length] at hS
      refine ⟨D, S, m, rfl, hD, Nat.le_trans mi (Nat.le_trans (by omega : xs.length ≤ 1000) (by decide)), fun ys p so nd hy np => ?_⟩
      have hp : H p = none := by
        cases e : H p with
        | none => rfl
        | some o => rw [s1 _ _ e] at np; cases np
      exact k ys p _ so nd (fun y => (hy y).trans (hS y)) (s1.trans (same_new np)) hp upd_same
end
end K1
namespace K1
open PySem PySem.Spec PyProof.Rows L2 LK MXi
abbrev sTold : Stmt := top 33
theorem scTold : FnScope ["cloth", "loops_here", "fast_here", "yarns", "due", "turn", "k", "item"] ["cloth", "loops_here", "fast_here"] (defScope sTold) := ⟨rfl, rfl, rfl, by decide +kernel, rfl, by decide +kernel, by decide +kernel⟩
/-- a cloth at x with the loops ls, the fast ones ms -/
def IsC (K : PySem.W.Frag) (CC : Addr) (H : Hp) (x : Addr) (ls : List Lp) (ms : List Int) : Prop := ∃ (dx L G : Addr) (xs : List V), H x = some (.ins CC dx [("_loops", .ref L), ("_fast", .ref G)]) ∧ H L = some (.lst xs) ∧ DpAll K H xs (ls.map lpD) ∧ H G = some (.lst (ms.map V.int))
theorem IsC.same {K : PySem.W.Frag} {CC : Addr} {H H' : Hp} {x : Addr} {ls : List Lp} {ms : List Int} (h : IsC K CC H x ls ms) (s : Same H H') : IsC K CC H' x ls ms := by
  obtain ⟨dx, L, G, xs, h1, h2, h3, h4⟩ := h
  exact ⟨dx, L, G, xs, s _ _ h1, s _ _ h2, dps_same s h3, s _ _ h4⟩
def spTold (K : PySem.W.Frag) (CC : Addr) : Sp := fun vs H Q _ => ∃ (x : Addr) (u v : V) (ls : List Lp) (ns ms : List Int), vs = [.ref x, u, v] ∧ IsC K CC H x ls ms ∧ Dp K H u (.list (ls.map lpD)) ∧ Dp K H v (.list (ns.map PyData.int)) ∧ ms.Perm ns ∧ ms.Pairwise (· ≤ ·) ∧ ls.length ≤ 63 ∧ PyData.canLayAll0 (ls.map lpD) = true ∧ (∀ l ∈ ls, l.2.length ≤ 1000) ∧ ns.length ≤ 1000 ∧ ∀ H', Same H H' → Q (.bl true) H'
/-- the properties and len -/
structure Prp (P : Program) (w : World) (K : PySem.W.Frag) (mg : Str → Option Value) (base : Heap) (CC : Addr) where
  (pL pF pT gL gF gT gN : Addr)
  (fL fF fT fN : FuncData)
  aL : PropOf K CC "loops" pL gL
  aF : PropOf K CC "fast" pF gF
  aT : PropOf K CC "threads" pT gT
  aN : LenOf K CC gN
  bL : Binds K fL ["self"] []
  bF : Binds K fF ["self"] []
  bT : Binds K fT ["self"] []
  bN : Binds K fN ["self"] []
  oL : FnOk P w K mg base CX0 1 gL fL ["self"] (spCopy K CC "_loops")
  oF : FnOk P w K mg base CX0 1 gF fF ["self"] (spCopy K CC "_fast")
  oT : FnOk P w K mg base CX0 1 gT fT ["self"] (spNam K CC)
  oN : FnOk P w K mg base CX0 1 gN fN ["self"] (spSize K CC)
theorem lps_pairs (ls : List Lp) : Pairs (ls.map lpD) := fun d hd => by
  obtain ⟨l, _, rfl⟩ := List.mem_map.mp hd
  exact ⟨_, _, rfl⟩
theorem thr_lps (ls : List Lp) : (ls.map lpD).map thrOf = ls.map (·.1) := by
  rw [List.map_map]
  rfl
theorem few_ints : ∀ ns : List Int, fewAll (ns.map PyData.int) = true
  | [] => rfl
  | _ :: r => few_ints r
theorem few_strs : ∀ ns : List Str, fewAll (ns.map PyData.str) = true
  | [] => rfl
  | _ :: r => few_strs r
theorem lay_ints : ∀ ns : List Int, PyData.canLayAll0 (ns.map PyData.int) = true ∧ PyData.depthAll (ns.map PyData.int) = 0
  | [] => ⟨rfl, rfl⟩
  | n :: r => by
    obtain ⟨a, b⟩ := lay_ints r
    constructor
    · rw [List.map_cons, PyData.canLayAll0, a]
      rfl
    · simp only [List.map_cons, PyData.depthAll, PyData.depth, b]
      rfl
theorem lay_strs : ∀ ns : List Str, (∀ n ∈ ns, (PyData.str n).canLay0 = true) → PyData.canLayAll0 (ns.map PyData.str) = true ∧ PyData.depthAll (ns.map PyData.str) = 0
  | [], _ => ⟨rfl, rfl⟩
  | n :: r, h => by
    obtain ⟨a, b⟩ := lay_strs r fun m hm => h m (List.mem_cons_of_mem _ hm)
    constructor
    · rw [List.map_cons, PyData.canLayAll0, a, h n List.mem_cons_self]
      rfl
    · simp only [List.map_cons, PyData.depthAll, PyData.depth, b]
      rfl
theorem few_lp {l : Lp} (h : l.2.length ≤ 1000) : few (lpD l) = true := by
  have q : few (.tuple (l.2.map PyData.int)) = true := by
    unfold few
    rw [few_ints, Bool.and_true, List.length_map]
    exact decide_eq_true (by omega)
  show (decide (2 ≤ 1000000) && (few (.str l.1) && (few (.tuple (l.2.map PyData.int)) && true))) = true
  rw [q]
  rfl
theorem lps_all : ∀ {ls : List Lp}, (∀ l ∈ ls, l.2.length ≤ 1000) → fewAll (ls.map lpD) = true ∧ PyData.depthAll (ls.map lpD) ≤ 2
  | [], _ => ⟨rfl, Nat.zero_le _⟩
  | l :: r, h => by
    obtain ⟨a, c⟩ := lps_all (ls := r) fun m hm => h m (List.mem_cons_of_mem _ hm)
    obtain ⟨_, e⟩ := lay_ints l.2
    refine ⟨?_, ?_⟩
    · rw [List.map_cons, fewAll, a, few_lp (h l List.mem_cons_self)]
      rfl
    · simp only [List.map_cons, PyData.depthAll, lpD, PyData.depth, e]
      omega
theorem lay_thr {ls : List Lp} (h : PyData.canLayAll0 (ls.map lpD) = true) : ∀ n ∈ ls.map (·.1), (PyData.str n).canLay0 = true := fun n hn => by
  obtain ⟨l, hl, rfl⟩ := List.mem_map.mp hn
  have q := lay_mem h (List.mem_map.mpr ⟨l, hl, rfl⟩)
  have q2 : PyData.canLayAll0 [.str l.1, .tuple (l.2.map PyData.int)] = true := by simpa only [lpD, PyData.canLay0] using q
  exact lay_mem q2 List.mem_cons_self
theorem ints_back {K : PySem.W.Frag} {H : Hp} : ∀ {vs : List V} {ns : List Int}, DpAll K H vs (ns.map PyData.int) → vs = ns.map V.int
  | _, [], .nil => rfl
  | _, n :: r, .cons (.int _) t => by rw [ints_back t]; rfl
theorem dp_strs {K : PySem.W.Frag} {H : Hp} : ∀ ys : List Str, DpAll K H (ys.map V.str) (ys.map PyData.str)
  | [] => .nil
  | y :: r => .cons (.str y) (dp_strs r)
theorem same_two {H : Hp} {p : Addr} {o o' : HO} (h : H p = none) : Same H (L2.upd (L2.upd H p o) p o') := fun b u e => by
  rw [upd_ne (ne_of_none e h), upd_ne (ne_of_none e h)]
  exact e
theorem sz63 {n : Nat} (h : n ≤ 1000) : n < sizeLine := Nat.lt_of_le_of_lt h (by decide)
section
variable {P : Program} {w : World} {K : PySem.W.Frag} {mg : Str → Option Value} {base : Heap} {CC : Addr}
theorem ok_Told {f : Addr} {fd : FuncData} (F : Fun K "_law_told_right" "_law_told_right" sTold f fd) (B : Bl mg) {fM : Addr} {fdM : FuncData} (GM : FnOk P w K mg base CX0 6 fM fdM ["found", "due"] (spM K 6)) (gM : mg "_law_matched" = some (.ref fM)) (kM : PySem.W.keepIn K (.ref fM) = true) (bM : Binds K fdM ["found", "due"] [])
    (R : Prp P w K mg base CC) (cc : Cls K CC) (n1 : NoAttr K CC "_loops") (n2 : NoAttr K CC "_fast") : FnOk P w K mg base CX0 8 f fd ["cloth", "loops_here", "fast_here"] (spTold K CC) := by
  refine F.ok scTold (fun vs H Q E h => ?_) (fun cdv A outer s H vs Q E hr h => ?_)
  · obtain ⟨x, u, v, ls, ns, ms, rfl, _⟩ := h
    rfl
  · obtain ⟨x, u, v, ls, ns, ms, rfl, hx, hu, hv, pm, pw, ln, lay, lp, nn, k⟩ := h
    refine ⟨_, pss_cons (ps_set (i := 3) scTold.nd rfl (Or.inr rfl) (pe_callB cr_sortedS (by rfl) (B "sorted" (by decide)) (by decide +kernel) (pa_cons (pe_lc (own := [("item", 7)]) (g := gName 7) (tt := tYes) rfl scTold.nd (pi_list (pv 1)) (blkOk_by (N := ["cloth", "loops_here", "fast_here", "yarns", "due", "turn", "k", "item"]) (sc := defScope sTold) (by decide +kernel)) (fun _ _ _ _ _ => pg_name (i := 7) scTold.nd rfl (Or.inl rfl)) (fun _ _ _ _ _ => pts_nil) (fun _ _ _ _ _ => pe_ix (ixt (K := K)) (pv 7) pe_int (fun _ _ => rfl))) pa_nil)))
      (pss_cons (ps_set (i := 3) scTold.nd rfl (Or.inr rfl) (pe_lc (own := [("k", 6)]) (g := gName 6) rfl scTold.nd (pi_range1 (by rfl) (B "range" (by decide)) (pa_cons (pe_callB call_len_seq (by rfl) (B "len" (by decide)) (by decide +kernel) (pa_cons (pv 3) pa_nil)) pa_nil)) (blkOk_by (N := ["cloth", "loops_here", "fast_here", "yarns", "due", "turn", "k", "item"]) (sc := defScope sTold) (by decide +kernel)) (fun _ _ _ _ _ => pg_name (i := 6) scTold.nd rfl (Or.inl rfl)) (fun _ _ _ _ _ => pts_one (PW.pt (pw_or (pt_cmpR op_eq (pv 6) pe_int (nomark _)) (pw_or1 (pt_cmpR op_ne (pe_ix (ixl (K := K)) (pv 3) (pv 6) (fun _ _ => rfl)) (pe_ix (ixl (K := K)) (pv 3) (pe_op op_sub (pv 6) pe_int) (fun _ _ => rfl)) (nomark _)))))) (fun _ _ _ _ _ => pe_ix (ixl (K := K)) (pv 3) (pv 6) (fun _ _ => rfl))))
      (pss_cons (ps_set (i := 4) scTold.nd rfl (Or.inl rfl) (pe_lst (pa_cons (pv 1) (pa_cons (pe_callB L2.cr_sortedI (by rfl) (B "sorted" (by decide)) (by decide +kernel) (pa_cons (pv 2) pa_nil)) (pa_cons (pv 3) (pa_cons (pe_callB call_len_seq (by rfl) (B "len" (by decide)) (by decide +kernel) (pa_cons (pv 1) pa_nil)) pa_nil))))))
      (pss_cons (ps_for PassesOwn.never rfl (pi_range1 (by rfl) (B "range" (by decide)) (pa_cons pe_int pa_nil)) (pg_name (i := 5) scTold.nd rfl (Or.inl rfl)) (pss_cons (ps_if (pt_not (pt_val (pe_call (E := E0) GM (hr.mono (by decide)) rfl gM kM bM .nil pass0 (pa_cons (pe_lst (pa_cons (pe_prop (pv 0) cc R.aL R.oL (hr.mono (by decide)) R.bL .nil pass0 (by rfl)) (pa_cons (pe_prop (pv 0) cc R.aF R.oF (hr.mono (by decide)) R.bF .nil pass0 (by rfl)) (pa_cons (pe_prop (pv 0) cc R.aT R.oT (hr.mono (by decide)) R.bT .nil pass0 (by rfl)) (pa_cons (pe_callB (call_lenO (E := E0) R.aN R.oN (hr.mono (by decide)) R.bN pass0) (by rfl) (B "len" (by decide)) (by decide +kernel) (pa_cons (pv 0) pa_nil)) pa_nil))))) (pa_cons (pv 4) pa_nil))))) (pss_one (ps_ret pe_bl)) pss_nil)
      (pss_cons (ps_expr (pe_bm PySem.F.plainAttrs_list PySem.F.slot_list_append PySem.F.type_list_append mt_append (pe_prop (pv 0) cc R.aL R.oL (hr.mono (by decide)) R.bL .nil pass0 (by rfl)) (pa_cons pe_non pa_nil)))
      (pss_cons (ps_expr (pe_bm PySem.F.plainAttrs_list PySem.F.slot_list_append PySem.F.type_list_append mt_append (pe_prop (pv 0) cc R.aF R.oF (hr.mono (by decide)) R.bF .nil pass0 (by rfl)) (pa_cons pe_non pa_nil)))
      (pss_one (ps_expr (pe_bm PySem.F.plainAttrs_list PySem.F.slot_list_append PySem.F.type_list_append mt_append (pe_prop (pv 0) cc R.aT R.oT (hr.mono (by decide)) R.bT .nil pass0 (by rfl)) (pa_cons pe_non pa_nil))))))))
      (pss_one (ps_ret pe_bl))))), ?_⟩
    obtain ⟨ua, us, _, rfl, e1, hus, hds⟩ := list_of hu rfl
    cases e1
    have ul := dps_len hds
    rw [List.length_map] at ul
    refine ⟨_, rfl, ua, rfl, ⟨us, hus⟩, fun D nD => ?_⟩
    refine lc_list (K := K) (a := ua) (xs := us) (fun i H' => Same H H' ∧ H' D = some (.lst (((ls.take i).map (·.1)).map V.str))) ⟨same_new nD, upd_same⟩ (fun i H' _ hI => hI.1.seq hus) (fun i y H' hy hI => ?_) (fun H1 hI => ?_)
    · obtain ⟨s1, hD⟩ := hI
      have il : i < ls.length := by
        rw [← ul]
        exact (List.getElem?_eq_some_iff.mp hy).1
      obtain ⟨y', d, hy', hd', dv⟩ := dps_at hds (i := i) (by rw [List.length_map]; exact il)
      obtain rfl : y = y' := by
        rw [hy] at hy'
        exact Option.some.inj hy'
      rw [List.getElem?_map, List.getElem?_eq_getElem il] at hd'
      cases hd'
      obtain ⟨a, zs, es, rfl, e0, sq, da⟩ := tup_of dv rfl
      cases e0
      cases da with
      | cons d1 r =>
        cases d1
        refine ⟨rfl, ?_⟩
        refine ⟨_, rfl, a, _, _, _, rfl, rfl, same_tup s1 sq, atI_nat (j := 0) rfl, _, hD, ?_, ?_, ?_⟩
        · simp only [List.length_map, List.length_take]
          exact Nat.lt_of_le_of_lt (Nat.min_le_right _ _) (Nat.lt_of_le_of_lt ln (by decide))
        · intro b o e
          rw [upd_ne (ne_of_none e nD)]
          exact s1 b o e
        · rw [upd_same, List.take_add_one, List.getElem?_eq_getElem il, Option.toList_some, List.map_append, List.map_append]
          rfl
    · obtain ⟨s1, hD⟩ := hI
      rw [ul, List.take_length] at hD
      refine ⟨D, ls.map (·.1), rfl, SqL.of hD, by rw [List.length_map]; omega, fun zs p1 pz sz np1 => ?_⟩
      have s2 := s1.trans (same_new (o := .lst (zs.map V.str)) np1)
      have hp1 := upd_same (H := H1) (a := p1) (o := .lst (zs.map V.str))
      generalize L2.upd H1 p1 (.lst (zs.map V.str)) = H2 at *
      have zl : zs.length ≤ 63 := by rw [pz.length_eq, List.length_map]; exact ln
      dsimp only [gName]
      refine ⟨_, rfl, p1, _, rfl, .inl (SqL.of hp1), _, rfl, by rw [List.length_map]; omega, by rw [List.length_map]; omega, fun D2 nD2 => ?_⟩
      have at_ : ∀ (m : Nat) (i : Int) (h : m < zs.length), i = (m : Int) → atI (zs.map V.str) i = some (.str zs[m]) := fun m i h e => by
        subst e
        exact atI_nat (by rw [List.getElem?_map, List.getElem?_eq_getElem h]; rfl)
      refine lc_range (lo := 0) (n := (zs.map V.str).length) (fun j H' => Same H2 H' ∧ H' D2 = some (.lst ((leftS zs j).map V.str))) ⟨same_new nD2, upd_same⟩ (fun j H3 hj hh => ⟨rfl, ?_⟩) (fun H3 hh => ?_)
      · obtain ⟨s3, hD2⟩ := hh
        rw [List.length_map] at hj
        have hp13 := s3 _ _ hp1
        have put : ∀ {G : Hp}, newAt zs j = true → G = H3 → ∃ acc, G D2 = some (.lst acc) ∧ acc.length < sizeLine ∧ (Same H2 (L2.upd G D2 (.lst (acc ++ [V.str zs[j]]))) ∧ (L2.upd G D2 (.lst (acc ++ [V.str zs[j]]))) D2 = some (.lst ((leftS zs (j + 1)).map V.str))) := by
          rintro G yes rfl
          refine ⟨_, hD2, ?_, fun b o e => ?_, ?_⟩
          · rw [List.length_map]
            exact Nat.lt_of_le_of_lt (left_len zs j) (Nat.lt_of_le_of_lt (by omega : j ≤ 63) (by decide))
          · rw [upd_ne (ne_of_none e nD2)]
            exact s3 b o e
          · rw [upd_same, left_succ (List.getElem?_eq_getElem hj), if_pos yes, List.map_append]
            rfl
        refine ⟨_, rfl, rfl, _, rfl, ?_⟩
        by_cases j0 : j = 0
        · subst j0
          refine LK.ifT (by decide) ?_
          refine ⟨_, rfl, _, rfl, p1, _, _, _, rfl, rfl, SqL.of hp13, at_ 0 _ hj (by simp), put rfl rfl⟩
        · refine LK.ifF (by simp; omega) ?_
          refine ⟨_, rfl, _, rfl, p1, _, _, _, rfl, rfl, SqL.of hp13, at_ j _ hj (by simp), _, rfl, _, rfl, _, _, rfl, rfl, p1, _, _, _, rfl, rfl, SqL.of hp13, at_ (j - 1) _ (by omega) (by omega), rfl, _, rfl, ?_⟩
          have nw : newAt zs j = !decide (zs[j] = zs[j - 1]) := by
            unfold newAt
            rw [decide_eq_false j0, Bool.false_or, List.getElem?_eq_getElem hj, List.getElem?_eq_getElem (by omega : j - 1 < zs.length)]
            simp
          by_cases e : zs[j] = zs[j - 1]
          · refine LK.ifF (by simp [e]) ⟨s3, ?_⟩
            rw [left_succ (List.getElem?_eq_getElem hj), if_neg (by rw [nw]; simp [e])]
            exact hD2
          · refine LK.ifT (by simp [e]) ?_
            exact ⟨_, rfl, _, rfl, p1, _, _, _, rfl, rfl, SqL.of hp13, at_ j _ hj (by simp), put (by rw [nw]; simp [e]) rfl⟩
      · obtain ⟨s3, hD2⟩ := hh
        rw [List.length_map] at hD2
        have s03 := s2.trans s3
        dsimp only [gName]
        obtain ⟨va, vs, _, rfl, e1, hvs, hes⟩ := list_of hv rfl
        cases e1
        have vns : vs = ns.map V.int := ints_back hes
        refine ⟨_, rfl, _, rfl, va, ns, rfl, ?_, fun ms' p3 pm' pw' np3 => ?_⟩
        · rw [← vns]
          exact s03.seq hvs
        have s4 := s03.trans (same_new (o := .lst (ms'.map V.int)) np3)
        have hp3 := upd_same (H := H3) (a := p3) (o := .lst (ms'.map V.int))
        have hD24 := same_new (o := .lst (ms'.map V.int)) np3 _ _ hD2
        generalize L2.upd H3 p3 (.lst (ms'.map V.int)) = H4 at *
        have em : ms' = ms := List.Perm.eq_of_pairwise (le := (· ≤ ·)) (fun a b _ _ h1 h2 => Int.le_antisymm h1 h2) pw' pw (pm'.trans pm.symm)
        subst em
        refine ⟨_, rfl, _, rfl, ua, us, rfl, .inl (s4.seq hus), ?_⟩
        rw [ul]
        refine ⟨by show 4 ≤ sizeLine; decide, fun pd npd => ?_⟩
        have s5 := s4.trans (same_new (o := .lst [.ref ua, .ref p3, .ref D2, .int (ls.length : Nat)]) npd)
        have hpd := upd_same (H := H4) (a := pd) (o := .lst [.ref ua, .ref p3, .ref D2, .int (ls.length : Nat)])
        have hp35 := same_new (o := .lst [.ref ua, .ref p3, .ref D2, .int (ls.length : Nat)]) npd _ _ hp3
        have hD25 := same_new (o := .lst [.ref ua, .ref p3, .ref D2, .int (ls.length : Nat)]) npd _ _ hD24
        generalize L2.upd H4 pd (.lst [.ref ua, .ref p3, .ref D2, .int (ls.length : Nat)]) = H5 at *
        have due : Dp K H5 (.ref pd) (.list [.list (ls.map lpD), .list (ms'.map PyData.int), .list ((leftS zs zs.length).map PyData.str), .int (ls.length : Nat)]) :=
          .lst (SqL.of hpd) (.cons (dp_same s5 hu) (.cons (.lst (SqL.of hp35) (dp_ints_of _)) (.cons (.lst (SqL.of hD25) (dp_strs _)) (.cons (.int _) .nil))))
        dsimp only [gName]
        refine ⟨_, rfl, by decide, by decide, ?_⟩
        refine for_range (lo := 0) (n := 2) (fun i σ H' => ∃ (o5 o6 o7 : Option V), σ = [some (.ref x), some (.ref ua), some (.ref va), some (.ref D2), some (.ref pd), o5, o6, o7] ∧ Same H5 H')
          ⟨_, _, _, rfl, Same.refl H5⟩ (fun i σ H6 hi hI => ?_) (fun σ H6 hI => ?_)
        · obtain ⟨o5, o6, o7, rfl, s6⟩ := hI
          have s06 := s5.trans s6
          obtain ⟨dx, L, G, xs, c1, c2, c3, c4⟩ := hx.same s06
          refine ⟨_, rfl, x, dx, _, rfl, c1, x, dx, L, _, xs, rfl, c1, cc, n1, rfl, c2, fun a1 na1 => ?_⟩
          have t1 := same_new (o := .lst xs) na1
          have l1 := upd_same (H := H6) (a := a1) (o := .lst xs)
          generalize L2.upd H6 a1 (.lst xs) = H7 at *
          refine ⟨_, rfl, x, dx, _, rfl, t1 _ _ c1, x, dx, G, _, _, rfl, t1 _ _ c1, cc, n2, rfl, t1 _ _ c4, fun a2 na2 => ?_⟩
          have t2 := t1.trans (same_new (o := .lst (ms'.map V.int)) na2)
          have l12 := same_new (o := .lst (ms'.map V.int)) na2 _ _ l1
          have l2 := upd_same (H := H7) (a := a2) (o := .lst (ms'.map V.int))
          generalize L2.upd H7 a2 (.lst (ms'.map V.int)) = H8 at *
          refine ⟨_, rfl, x, dx, _, rfl, t2 _ _ c1, x, dx, L, _, xs, ls.map lpD, rfl, t2 _ _ c1, cc, n1, rfl, t2 _ _ c2, dps_same t2 c3, lps_pairs ls, by rw [List.length_map]; omega, fun ys a3 H9 ss nd hy t3 na3 l3 => ?_⟩
          have t39 := t2.trans t3
          rw [thr_lps] at hy
          have ey : leftS zs zs.length = ys := left_all sz ss nd fun y => (hy y).trans pz.mem_iff.symm
          refine ⟨_, rfl, x, dx, _, rfl, t39 _ _ c1, x, dx, L, _, xs, rfl, t39 _ _ c1, cc, n1, rfl, t39 _ _ c2, _, rfl, by omega, ?_, ?_⟩
          · have : xs.length = ls.length := by rw [dps_len c3, List.length_map]
            omega
          have xl : xs.length = ls.length := by rw [dps_len c3, List.length_map]
          rw [xl]
          refine ⟨by show 4 ≤ sizeLine; decide, fun a4 na4 => ?_⟩
          have t4 := t39.trans (same_new (o := .lst [.ref a1, .ref a2, .ref a3, .int (ls.length : Nat)]) na4)
          have t49 := same_new (o := .lst [.ref a1, .ref a2, .ref a3, .int (ls.length : Nat)]) na4
          have l4 := upd_same (H := H9) (a := a4) (o := .lst [.ref a1, .ref a2, .ref a3, .int (ls.length : Nat)])
          generalize L2.upd H9 a4 (.lst [.ref a1, .ref a2, .ref a3, .int (ls.length : Nat)]) = H10 at *
          refine ⟨_, rfl, .ref a4, .ref pd, _, rfl, ?_, dp_same (s6.trans t4) due, ?_, ?_, ?_, ?_, fun H11 t5 => ?_⟩
          · refine .lst (SqL.of l4) (.cons (.lst (SqL.of (t49 _ _ (t3 _ _ l12))) (dps_same t4 c3)) (.cons (.lst (SqL.of (t49 _ _ (t3 _ _ l2))) (dp_ints_of _)) (.cons (.lst (SqL.of (t49 _ _ l3)) ?_) (.cons (.int _) .nil))))
            rw [ey]
            exact dp_strs ys
          · have q := lay_strs (leftS zs zs.length) fun n hn => lay_thr lay n ((hy n).1 (ey ▸ hn))
            simp only [PyData.canLay0, PyData.canLayAll0, lay, (lay_ints ms').1, q.1, Bool.and_true]
          · have q := lay_strs (leftS zs zs.length) fun n hn => lay_thr lay n ((hy n).1 (ey ▸ hn))
            have q2 := (lps_all lp).2
            simp only [PyData.depth, PyData.depthAll, (lay_ints ms').2, q.2]
            omega
          · have q := lay_strs (leftS zs zs.length) fun n hn => lay_thr lay n ((hy n).1 (ey ▸ hn))
            have q2 := (lps_all lp).2
            simp only [PyData.depth, PyData.depthAll, (lay_ints ms').2, q.2]
            omega
          · have q2 := (lps_all lp).1
            have ml : ms'.length ≤ 1000 := by rw [pm.length_eq]; exact nn
            have yl := left_len zs zs.length
            have a1' : few (.list (ls.map lpD)) = true := by
              unfold few
              rw [q2, Bool.and_true, List.length_map]
              exact decide_eq_true (by omega)
            have a2' : few (.list (ms'.map PyData.int)) = true := by
              unfold few
              rw [few_ints, Bool.and_true, List.length_map]
              exact decide_eq_true (by omega)
            have a3' : few (.list ((leftS zs zs.length).map PyData.str)) = true := by
              unfold few
              rw [few_strs, Bool.and_true, List.length_map]
              exact decide_eq_true (by omega)
            show (decide (4 ≤ 1000000) && (few (.list (ls.map lpD)) && (few (.list (ms'.map PyData.int)) && (few (.list ((leftS zs zs.length).map PyData.str)) && (true && true))))) = true
            rw [a1', a2', a3']
            rfl
          · have t11 := t4.trans t5
            have xlen : xs.length ≤ 1000 := by omega
            have mlen : (ms'.map V.int).length ≤ 1000 := by rw [List.length_map, pm.length_eq]; exact nn
            refine ⟨_, rfl, LK.ifF rfl ?_⟩
            refine ⟨_, rfl, x, dx, _, rfl, t11 _ _ c1, x, dx, L, _, xs, rfl, t11 _ _ c1, cc, n1, rfl, t11 _ _ c2, fun b1 nb1 => ⟨.inl ⟨rfl, xs, SqL.of upd_same⟩, b1, xs, _, rfl, rfl, upd_same, sz63 xlen, ?_⟩⟩
            have u1 := t11.trans (same_two (o := .lst xs) (o' := .lst (xs ++ [V.non])) nb1)
            generalize L2.upd (L2.upd H11 b1 (.lst xs)) b1 (.lst (xs ++ [V.non])) = H12 at *
            refine ⟨_, rfl, x, dx, _, rfl, u1 _ _ c1, x, dx, G, _, _, rfl, u1 _ _ c1, cc, n2, rfl, u1 _ _ c4, fun b2 nb2 => ⟨.inl ⟨rfl, _, SqL.of upd_same⟩, b2, _, _, rfl, rfl, upd_same, sz63 mlen, ?_⟩⟩
            have u2 := u1.trans (same_two (o := .lst (ms'.map V.int)) (o' := .lst (ms'.map V.int ++ [V.non])) nb2)
            generalize L2.upd (L2.upd H12 b2 (.lst (ms'.map V.int))) b2 (.lst (ms'.map V.int ++ [V.non])) = H13 at *
            refine ⟨_, rfl, x, dx, _, rfl, u2 _ _ c1, x, dx, L, _, xs, ls.map lpD, rfl, u2 _ _ c1, cc, n1, rfl, u2 _ _ c2, dps_same u2 c3, lps_pairs ls, by rw [List.length_map]; omega, fun ys2 b3 H14 ss2 nd2 hy2 u3 nb3 l5 => ?_⟩
            refine ⟨.inl ⟨rfl, _, SqL.of l5⟩, b3, _, _, rfl, rfl, l5, ?_, ?_⟩
            · rw [thr_lps] at hy2
              have : ys2 = ys := uniq_sorted (sorted_pw ss2) (sorted_pw ss) nd2 nd fun y => (hy2 y).trans (hy y).symm
              rw [List.length_map, this, ← ey]
              exact sz63 (Nat.le_trans (left_len zs _) (by omega))
            · refine ⟨_, _, _, rfl, s6.trans (u2.trans ?_)⟩
              intro b o e
              rw [upd_ne (ne_of_none e nb3)]
              exact u3 b o e
        · obtain ⟨o5, o6, o7, rfl, s6⟩ := hI
          exact k H6 (s5.trans s6)
end
end K1
/-! law: what is handed in, and what becomes of it. -/
namespace K1
open PySem PySem.Spec PyProof.Rows L2 LK
/-- data that all may be asked of -/
structure GoodD (d : PyData) : Prop where
  tm : tame d = true
  lay : d.canLay0 = true
  dp : d.depth ≤ 5
  ne : neat d = true
  wt : d.weight ≤ 60000
/-- n items at most -/
structure Items (n : Nat) (ds : List PyData) : Prop where
  ln : ds.length ≤ n
  tm : tameAll ds = true
  lay : PyData.canLayAll0 ds = true
  dp : PyData.depthAll ds ≤ 2
  ne : neatAll ds = true
  wt : ∀ d ∈ ds, d.weight ≤ 400
theorem wt_all : ∀ {ds : List PyData}, (∀ d ∈ ds, d.weight ≤ 400) → PyData.weightAll ds ≤ ds.length * 401
  | [], _ => Nat.le_refl _
  | d :: r, h => by
    have h1 := h d List.mem_cons_self
    have h2 := wt_all (ds := r) fun e he => h e (List.mem_cons_of_mem _ he)
    simp only [PyData.weightAll, List.length_cons]
    omega
theorem Items.good {n : Nat} {ds : List PyData} (h : Items n ds) (hn : n ≤ 100) : GoodD (.list ds) ∧ GoodD (.tuple ds) := by
  have ln := h.ln
  have w : PyData.weightAll ds ≤ 60000 := Nat.le_trans (wt_all h.wt) (Nat.le_trans (Nat.mul_le_mul_right _ (Nat.le_trans ln hn)) (by decide))
  have t : (decide (ds.length ≤ 1000) && tameAll ds) = true := by rw [h.tm, Bool.and_true]; exact decide_eq_true (by omega)
  have dp := h.dp
  refine ⟨⟨t, h.lay, ?_, h.ne, w⟩, ⟨t, h.lay, ?_, h.ne, w⟩⟩ <;> (simp only [PyData.depth]; omega)
theorem tameAll_app : ∀ {a b : List PyData}, tameAll a = true → tameAll b = true → tameAll (a ++ b) = true
  | [], _, _, h => h
  | x :: r, b, h, k => by
    rw [tameAll, Bool.and_eq_true] at h
    rw [List.cons_append, tameAll, h.1, tameAll_app h.2 k]
    rfl
theorem layAll_app : ∀ {a b : List PyData}, PyData.canLayAll0 a = true → PyData.canLayAll0 b = true → PyData.canLayAll0 (a ++ b) = true
  | [], _, _, h => h
  | x :: r, b, h, k => by
    rw [PyData.canLayAll0, Bool.and_eq_true] at h
    rw [List.cons_append, PyData.canLayAll0, h.1, layAll_app h.2 k]
    rfl
theorem neatAll_app : ∀ {a b : List PyData}, neatAll a = true → neatAll b = true → neatAll (a ++ b) = true
  | [], _, _, h => h
  | x :: r, b, h, k => by
    rw [neatAll, Bool.and_eq_true] at h
    rw [List.cons_append, neatAll, h.1, neatAll_app h.2 k]
    rfl
theorem dpAll_app : ∀ {n : Nat} {a b : List PyData}, PyData.depthAll a ≤ n → PyData.depthAll b ≤ n → PyData.depthAll (a ++ b) ≤ n
  | _, [], _, _, h => h
  | n, x :: r, b, h, k => by
    simp only [PyData.depthAll] at h
    simp only [List.cons_append, PyData.depthAll]
    have := dpAll_app (n := n) (a := r) (b := b) (by omega) k
    omega
theorem tameAll_iff {ds : List PyData} : tameAll ds = true ↔ ∀ d ∈ ds, tame d = true := by
  induction ds with
  | nil => exact ⟨fun _ d hd => absurd hd List.not_mem_nil, fun _ => rfl⟩
  | cons x r ih => rw [tameAll, Bool.and_eq_true, ih]; simp
theorem layAll_iff {ds : List PyData} : PyData.canLayAll0 ds = true ↔ ∀ d ∈ ds, d.canLay0 = true := by
  induction ds with
  | nil => exact ⟨fun _ d hd => absurd hd List.not_mem_nil, fun _ => rfl⟩
  | cons x r ih => rw [PyData.canLayAll0, Bool.and_eq_true, ih]; simp
theorem neatAll_iff {ds : List PyData} : neatAll ds = true ↔ ∀ d ∈ ds, neat d = true := by
  induction ds with
  | nil => exact ⟨fun _ d hd => absurd hd List.not_mem_nil, fun _ => rfl⟩
  | cons x r ih => rw [neatAll, Bool.and_eq_true, ih]; simp
theorem dpAll_iff {n : Nat} {ds : List PyData} : PyData.depthAll ds ≤ n ↔ ∀ d ∈ ds, d.depth ≤ n := by
  induction ds with
  | nil => exact ⟨fun _ d hd => absurd hd List.not_mem_nil, fun _ => Nat.zero_le _⟩
  | cons x r ih =>
    simp only [PyData.depthAll, List.mem_cons, forall_eq_or_imp]
    rw [← ih]
    omega
theorem Items.iff {n : Nat} {ds : List PyData} : Items n ds ↔ ds.length ≤ n ∧ ∀ d ∈ ds, tame d = true ∧ d.canLay0 = true ∧ d.depth ≤ 2 ∧ Nice d := by
  constructor
  · intro h
    exact ⟨h.ln, fun d hd => ⟨tameAll_iff.mp h.tm d hd, layAll_iff.mp h.lay d hd, dpAll_iff.mp h.dp d hd, neatAll_iff.mp h.ne d hd, h.wt d hd⟩⟩
  · rintro ⟨h1, h2⟩
    exact ⟨h1, tameAll_iff.mpr fun d hd => (h2 d hd).1, layAll_iff.mpr fun d hd => (h2 d hd).2.1, dpAll_iff.mpr fun d hd => (h2 d hd).2.2.1, neatAll_iff.mpr fun d hd => (h2 d hd).2.2.2.1, fun d hd => (h2 d hd).2.2.2.2⟩
/-- some of the items, one more in between -/
theorem Items.bend {n k j : Nat} {ds : List PyData} {d : PyData} (h : Items n ds) (kj : k ≤ j) (t : tame d = true) (l : d.canLay0 = true) (p : d.depth ≤ 2) (c : Nice d) : Items (n + 1) (ds.take k ++ [d] ++ ds.drop j) := by
  obtain ⟨h1, h2⟩ := Items.iff.mp h
  refine Items.iff.mpr ⟨?_, fun e he => ?_⟩
  · simp only [List.length_append, List.length_take, List.length_drop, List.length_cons, List.length_nil]
    omega
  · rw [List.mem_append, List.mem_append] at he
    rcases he with (he | he) | he
    · exact h2 e (List.mem_of_mem_take he)
    · rw [List.mem_singleton.mp he]
      exact ⟨t, l, p, c⟩
    · exact h2 e (List.mem_of_mem_drop he)
/-- a list of one's own at p -/
structure Own (K : PySem.W.Frag) (H2 H3 : Hp) (c p : Addr) (n : Nat) (ds : List PyData) : Prop where
  ex : ∃ xs, H3 p = some (.lst xs) ∧ DpAll K (hide c H3) xs ds
  new : H2 p = none
  ne : p ≠ c
  it : Items n ds
theorem Own.bt {K : PySem.W.Frag} {H2 H3 H4 : Hp} {c p : Addr} {n : Nat} {ds : List PyData} (h : Own K H2 H3 c p n ds) (b : Bt c H3 H4) : Own K H2 H4 c p n ds := by
  obtain ⟨xs, h1, h2⟩ := h.ex
  exact ⟨⟨xs, b _ _ h.ne h1, dps_same (hide_bt b) h2⟩, h.new, h.ne, h.it⟩
/-- what is handed in: data, and where it is a list, a list of one's own -/
structure Got (K : PySem.W.Frag) (H2 H3 : Hp) (c : Addr) (v : V) (d : PyData) : Prop where
  dp : Dp K (hide c H3) v d
  gd : GoodD d
  own : isK d "list" = false ∨ ∃ p ds, v = .ref p ∧ d = .list ds ∧ Own K H2 H3 c p 63 ds
theorem Own.got {K : PySem.W.Frag} {H2 H3 : Hp} {c p : Addr} {n : Nat} {ds : List PyData} (h : Own K H2 H3 c p n ds) (hn : n ≤ 63) : Got K H2 H3 c (.ref p) (.list ds) := by
  obtain ⟨xs, h1, h2⟩ := h.ex
  have it : Items 63 ds := ⟨Nat.le_trans h.it.ln hn, h.it.tm, h.it.lay, h.it.dp, h.it.ne, h.it.wt⟩
  exact ⟨.lst (SqL.of (hide_at h.ne h1)) h2, (h.it.good (Nat.le_trans hn (by decide))).1, .inr ⟨p, ds, rfl, rfl, ⟨⟨xs, h1, h2⟩, h.new, h.ne, it⟩⟩⟩
theorem Got.bt {K : PySem.W.Frag} {H2 H3 H4 : Hp} {c : Addr} {v : V} {d : PyData} (h : Got K H2 H3 c v d) (b : Bt c H3 H4) : Got K H2 H4 c v d :=
  ⟨dp_same (hide_bt b) h.dp, h.gd, h.own.imp id fun ⟨p, ds, e, e2, o⟩ => ⟨p, ds, e, e2, o.bt b⟩⟩
theorem due_none {d e : PyData} (h : dueD d e = none) : loopsFault d = none := by
  unfold dueD at h
  split at h
  · cases h
  · assumption
/-- a right list of loops -/
theorem valid_lps {ds : List PyData} (h : loopsFault (.list ds) = none) : ∃ ls : List Lp, ds = ls.map lpD := by
  have bad : ∀ k < ds.length, loopBad ds k = false := by
    unfold loopsFault at h
    have h' : (List.range ds.length).find? (loopBad ds) = none := by
      cases q : (List.range ds.length).find? (loopBad ds) with
      | none => rfl
      | some k =>
        dsimp only at h
        rw [q] at h
        cases h
    intro k hk
    simpa using List.find?_eq_none.mp h' k (List.mem_range.mpr hk)
  have each : ∀ d ∈ ds, ∃ l : Lp, d = lpD l := by
    intro d hd
    obtain ⟨k, hk, rfl⟩ := List.getElem_of_mem hd
    have q := bad k hk
    unfold loopBad at q
    rw [List.getElem?_eq_getElem hk] at q
    have q2 : isLoopD k ds[k] = true := by simpa using q
    generalize ds[k] = d at q2
    unfold isLoopD at q2
    split at q2
    · rename_i a b
      rw [Bool.and_eq_true] at q2
      obtain ⟨q3, q4⟩ := q2
      cases a with
      | str z =>
        cases b with
        | tuple es =>
          unfold isParD at q4
          rw [Bool.and_eq_true] at q4
          have nums : ∀ es : List PyData, es.all (isNumD k) = true → ∃ ns : List Int, es = ns.map PyData.int := by
            intro es
            induction es with
            | nil => exact fun _ => ⟨[], rfl⟩
            | cons e r ih =>
              intro h
              rw [List.all_cons, Bool.and_eq_true] at h
              obtain ⟨ns, rfl⟩ := ih h.2
              cases e with
              | int i => exact ⟨i :: ns, rfl⟩
              | _ => exact Bool.noConfusion h.1
          obtain ⟨ns, rfl⟩ := nums es q4.1
          exact ⟨(z, ns), rfl⟩
        | _ => exact Bool.noConfusion q4
      | _ => exact Bool.noConfusion q3
    · cases q2
  clear h bad
  induction ds with
  | nil => exact ⟨[], rfl⟩
  | cons d r ih =>
    obtain ⟨l, rfl⟩ := each d List.mem_cons_self
    obtain ⟨ls, rfl⟩ := ih fun e he => each e (List.mem_cons_of_mem _ he)
    exact ⟨l :: ls, rfl⟩
theorem lps_short {ls : List Lp} (h : tameAll (ls.map lpD) = true) : ∀ l ∈ ls, l.2.length ≤ 1000 := fun l hl => by
  have q := tameAll_iff.mp h (lpD l) (List.mem_map.mpr ⟨l, hl, rfl⟩)
  unfold lpD tame at q
  rw [Bool.and_eq_true] at q
  have q2 := tameAll_iff.mp q.2 (.tuple (l.2.map PyData.int)) (by simp)
  unfold tame at q2
  rw [Bool.and_eq_true, List.length_map] at q2
  exact of_decide_eq_true q2.1
/-- no more than fit -/
theorem okfs_len {n : Nat} {fs : List Int} (h : OkFs n fs) : fs.length ≤ n := by
  have nd : (fs.map Int.toNat).Nodup := by
    refine List.Pairwise.map _ ?_ (List.Pairwise.and_mem.mp h.1)
    rintro a b ⟨ha, hb, ne⟩ e
    have := h.2 a ha
    have := h.2 b hb
    exact ne (by omega)
  have sub : (fs.map Int.toNat) ⊆ List.range n := fun x hx => by
    obtain ⟨a, ha, rfl⟩ := List.mem_map.mp hx
    have := h.2 a ha
    exact List.mem_range.mpr (by omega)
  have := sub_len _ _ nd sub
  rwa [List.length_map, List.length_range] at this
theorem okfs_items {n : Nat} {fs : List Int} (h : OkFs n fs) (hn : n ≤ 1000) : Items n (fs.map PyData.int) := by
  refine Items.iff.mpr ⟨by rw [List.length_map]; exact okfs_len h, fun d hd => ?_⟩
  obtain ⟨i, hi, rfl⟩ := List.mem_map.mp hd
  have := h.2 i hi
  exact ⟨rfl, rfl, Nat.zero_le _, nice_int (Nat.lt_of_le_of_lt (show i.natAbs ≤ 1000 by omega) (by decide))⟩
theorem lps_items {ys : List Str} {ls : List Lp} {n : Nat} (h : OkLs ys ls) (hy : ∀ y ∈ ys, Yn y) (hn : ls.length ≤ n) (n1 : n ≤ 1000) : Items n (ls.map lpD) := by
  refine Items.iff.mpr ⟨by rw [List.length_map]; exact hn, fun d hd => ?_⟩
  obtain ⟨l, hl, rfl⟩ := List.mem_map.mp hd
  obtain ⟨k, hk, rfl⟩ := List.getElem_of_mem hl
  obtain ⟨h1, h2, h3, h4⟩ := h k _ (List.getElem?_eq_getElem hk)
  obtain ⟨y1, y2, y3⟩ := hy _ h1
  have small : ∀ p ∈ (ls[k]).2, p.natAbs ≤ 1000 := fun p hp => by
    have := h4 p hp
    omega
  have nums : ∀ ns : List Int, (∀ p ∈ ns, p.natAbs ≤ 1000) → tameAll (ns.map PyData.int) = true ∧ neatAll (ns.map PyData.int) = true ∧ PyData.weightAll (ns.map PyData.int) ≤ ns.length * 20 := by
    intro ns
    induction ns with
    | nil => exact fun _ => ⟨rfl, rfl, Nat.le_refl _⟩
    | cons p r ih =>
      intro h
      obtain ⟨a, b, c⟩ := ih fun q hq => h q (List.mem_cons_of_mem _ hq)
      have hp := h p List.mem_cons_self
      have wp : (PyData.int p).weight ≤ 11 := by
        unfold PyData.weight
        split
        · exact Nat.zero_le _
        · rename_i nz
          have : p.natAbs.log2 < 10 := (Nat.log2_lt (by simpa using nz)).mpr (by omega)
          omega
      refine ⟨by rw [List.map_cons, tameAll, a]; rfl, ?_, ?_⟩
      · rw [List.map_cons, neatAll, b, Bool.and_true]
        exact decide_eq_true (Nat.lt_of_le_of_lt hp (by decide))
      · simp only [List.map_cons, PyData.weightAll, List.length_cons]
        omega
  obtain ⟨a, b, c⟩ := nums _ small
  obtain ⟨d1, d2⟩ := lay_ints (ls[k]).2
  have sz : (ls[k]).1.cps.size ≤ 8 := y2
  refine ⟨?_, ?_, ?_, ?_, ?_⟩
  · simp only [lpD, tame, tameAll, a, List.length_cons, List.length_nil, List.length_map, Bool.and_true, Bool.and_eq_true, decide_eq_true_eq]
    exact ⟨by omega, by omega⟩
  · simp only [lpD, PyData.canLay0, PyData.canLayAll0, d1, Bool.and_true]
    refine okT_iff.mpr fun c hc => ?_
    have := y3 c hc
    omega
  · simp only [lpD, PyData.depth, PyData.depthAll, d2]
    omega
  · simp only [lpD, neat, neatAll, b, Bool.and_true]
    exact decide_eq_true (by omega)
  · simp only [lpD, PyData.weight, PyData.weightAll]
    omega
end K1
namespace K1
open PySem PySem.Spec PyProof.Rows L2 LK
abbrev sLaw : Stmt := top 35
theorem scLaw : FnScope ["script", "at", "creel", "turn", "loops_here", "fast_here", "trial", "thing", "lot_here", "k", "odd", "due", "kept", "way", "found", "cloth", "like", "order"] ["script"] (defScope sLaw) := ⟨rfl, rfl, rfl, by decide +kernel, rfl, by decide +kernel, by decide +kernel⟩
def forB : Stmt → List Stmt
  | .For _ _ b _ _ => b
  | _ => []
def nth (l : List Stmt) (i : Nat) : Stmt := l.getD i (.Pass ⟨0, 0, 0, 0⟩)
abbrev bAt : List Stmt := forB (nth (defBody sLaw) 0)
abbrev bTurn : List Stmt := forB (nth bAt 1)
abbrev bTrial : List Stmt := forB (nth bTurn 1)
/-- the law's context -/
abbrev XL (P : Program) (w : World) (K : PySem.W.Frag) (mg : Str → Option Value) (base : Heap) (f : Addr) (cdv : Value) (A : Around) (outer : List Env) (s : Shared) (H : Hp) (E : XK) : Cx :=
  (cxOf CX0 P w K mg base ["script", "at", "creel", "turn", "loops_here", "fast_here", "trial", "thing", "lot_here", "k", "odd", "due", "kept", "way", "found", "cloth", "like", "order"] "law" (defScope sLaw) f cdv A outer s H E).nox
/-- the defs that the law calls -/
structure Fns (P : Program) (w : World) (K : PySem.W.Frag) (mg : Str → Option Value) (base : Heap) (CC : Addr) where
  (fP fB fO fY fA fC fD fM fX fT : Addr)
  (dP dB dO dY dA dC dD dM dX dT : FuncData)
  gP : mg "_law_ply" = some (.ref fP)
  gB : mg "_law_bent_loops" = some (.ref fB)
  gO : mg "_law_odd_thing" = some (.ref fO)
  gY : mg "_law_yarns" = some (.ref fY)
  gA : mg "_law_any_cloth" = some (.ref fA)
  gC : mg "_law_creel" = some (.ref fC)
  gD : mg "_law_due" = some (.ref fD)
  gM : mg "_law_made" = some (.ref fM)
  gX : mg "_law_matched" = some (.ref fX)
  gT : mg "_law_told_right" = some (.ref fT)
  kP : PySem.W.keepIn K (.ref fP) = true
  kB : PySem.W.keepIn K (.ref fB) = true
  kO : PySem.W.keepIn K (.ref fO) = true
  kY : PySem.W.keepIn K (.ref fY) = true
  kA : PySem.W.keepIn K (.ref fA) = true
  kC : PySem.W.keepIn K (.ref fC) = true
  kD : PySem.W.keepIn K (.ref fD) = true
  kM : PySem.W.keepIn K (.ref fM) = true
  kX : PySem.W.keepIn K (.ref fX) = true
  kT : PySem.W.keepIn K (.ref fT) = true
  bP : Binds K dP ["creel", "span"] []
  bB : Binds K dB ["creel", "loops_here"] []
  bO : Binds K dO ["creel", "count"] []
  bY : Binds K dY ["creel", "many"] []
  bA : Binds K dA ["creel", "most", "yarns"] []
  bC : Binds K dC ["script", "at"] []
  bD : Binds K dD ["loops_here", "fast_here"] []
  bM : Binds K dM ["way", "loops_here", "fast_here"] []
  bX : Binds K dX ["found", "due"] []
  bT : Binds K dT ["cloth", "loops_here", "fast_here"] []
  oP : FnOk P w K mg base CX0 1 fP dP ["creel", "span"] spPly
  oB : FnOk P w K mg base CX0 3 fB dB ["creel", "loops_here"] (spBent K)
  oO : FnOk P w K mg base CX0 2 fO dO ["creel", "count"] (spOdd K)
  oY : FnOk P w K mg base CX0 2 fY dY ["creel", "many"] spYarns
  oA : FnOk P w K mg base CX0 2 fA dA ["creel", "most", "yarns"] (spAny K)
  oC : FnOk P w K mg base CX0 1 fC dC ["script", "at"] (spCreel K)
  oD : FnOk P w K mg base CX0 3 fD dD ["loops_here", "fast_here"] (spDue K)
  oM : FnOk P w K mg base CX0 8 fM dM ["way", "loops_here", "fast_here"] (spMade K CC)
  oX : FnOk P w K mg base CX0 6 fX dX ["found", "due"] (spM K 6)
  oT : FnOk P w K mg base CX0 8 fT dT ["cloth", "loops_here", "fast_here"] (spTold K CC)
section
variable {P : Program} {w : World} {K : PySem.W.Frag} {mg : Str → Option Value} {base : Heap} {f CC : Addr} {cdv : Value} {A : Around} {outer : List Env} {s : Shared} {H0 : Hp} {E : XK}
/-- thing, lot_here = (list(loops_here), list(fast_here)) -/
theorem ps_t0 (B : Bl mg) : ∃ t, PS (XL P w K mg base f cdv A outer s H0 E) (nth bTrial 0) t ∧ ∀ (D : Ends) (H2 H : Hp) (c L G : Addr) (bb : Nat) (xs : List V) (ds : List PyData) (fs : List Int) (x0 x1 x3 x6 x7 x8 x9 x10 x11 x12 x13 x14 x15 x16 x17 : Option V),
    CR H c bb → Bt c H2 H → c ≠ L → c ≠ G → H L = some (.lst xs) → H G = some (.lst (fs.map V.int)) → DpAll K (hide c H) xs ds → Items 40 ds → Items 40 (fs.map PyData.int) →
    (∀ (p q : Addr) (H' : Hp), Bt c H H' → CR H' c bb → p ≠ q → Own K H2 H' c p 40 ds → Own K H2 H' c q 40 (fs.map PyData.int) → D.nx [x0, x1, some (.ref c), x3, some (.ref L), some (.ref G), x6, some (.ref p), some (.ref q), x9, x10, x11, x12, x13, x14, x15, x16, x17] H') →
    t D [x0, x1, some (.ref c), x3, some (.ref L), some (.ref G), x6, x7, x8, x9, x10, x11, x12, x13, x14, x15, x16, x17] H := by
  refine ⟨_, ps_par (i := 7) (j := 8) rfl scLaw.nd rfl rfl (by decide) rfl rfl (pa_cons (pe_callTy call_list_of (by rfl) (B "list" (by decide)) (by decide +kernel) (pa_cons (pv 4) pa_nil)) (pa_cons (pe_callTy call_list_of (by rfl) (B "list" (by decide)) (by decide +kernel) (pa_cons (pv 5) pa_nil)) pa_nil)) (by rfl), ?_⟩
  intro D H2 H c L G bb xs ds fs x0 x1 x3 x6 x7 x8 x9 x10 x11 x12 x13 x14 x15 x16 x17 hc b2 cL cG hL hG hd il ig k
  refine ⟨_, rfl, L, xs, rfl, .inl (SqL.of hL), fun p np => ⟨_, rfl, G, _, rfl, .inl (SqL.of (same_new np _ _ hG)), fun q nq => ⟨_, _, rfl, ?_⟩⟩⟩
  have s1 := same_new (o := .lst xs) np
  have s2 := same_new (o := .lst (fs.map V.int)) nq
  have hp := s2 _ _ (upd_same (H := H) (a := p) (o := .lst xs))
  have hq := upd_same (H := L2.upd H p (.lst xs)) (a := q) (o := .lst (fs.map V.int))
  have c1 := hc.same s1
  have pq : p ≠ q := ne_of_none upd_same nq
  have nc1 := (hc.fresh np).symm
  have nc2 := (c1.fresh nq).symm
  have gone : ∀ {b : Addr} {G' : Hp}, Bt c H2 G' → b ≠ c → G' b = none → H2 b = none := fun {b G'} bt nb z => by
    cases e : H2 b with
    | none => rfl
    | some o => rw [bt b o nb e] at z; cases z
  refine k p q _ (Bt.of (s1.trans s2)) (c1.same s2) pq ⟨⟨xs, hp, dps_same (hide_bt (Bt.of (s1.trans s2))) hd⟩, gone b2 nc1 np, nc1, il⟩ ⟨⟨_, hq, dp_ints_of _⟩, gone (b2.trans (Bt.of s1)) nc2 nq, nc2, ig⟩
end
end K1
namespace K1
open PySem PySem.Spec PyProof.Rows L2 LK
section
variable {P : Program} {w : World} {K : PySem.W.Frag} {mg : Str → Option Value} {base : Heap} {f CC : Addr} {cdv : Value} {A : Around} {outer : List Env} {s : Shared} {H0 : Hp} {E : XK}
theorem gone_bt {c : Addr} {H2 H : Hp} (bt : Bt c H2 H) {b : Addr} (nb : b ≠ c) (z : H b = none) : H2 b = none := by
  cases e : H2 b with
  | none => rfl
  | some o => rw [bt b o nb e] at z; cases z
/-- a list put together of a part, one item, the rest -/
theorem own_cut {H2 H c p n} {K : PySem.W.Frag} {ds : List PyData} (h : Own K H2 H c p n ds) : ∃ xs, H p = some (.lst xs) ∧ xs.length = ds.length ∧ DpAll K (hide c H) xs ds := by
  obtain ⟨xs, h1, h2⟩ := h.ex
  exact ⟨xs, h1, dps_len h2, h2⟩
theorem Own.more {H2 H : Hp} {c p : Addr} {n m : Nat} {ds : List PyData} (h : Own K H2 H c p n ds) (le : n ≤ m) : Own K H2 H c p m ds := ⟨h.ex, h.new, h.ne, ⟨Nat.le_trans h.it.ln le, h.it.tm, h.it.lay, h.it.dp, h.it.ne, h.it.wt⟩⟩
theorem bent_at {H2 H : Hp} {c p : Addr} {n bb : Nat} {ds : List PyData} {Q : VK} {E : XK} (own : Own K H2 H c p n ds) (hn : n ≤ 500) (b2 : Bt c H2 H) (hc : CR H c bb) (hB : bb + 10 < 10 ^ 12)
    (k : ∀ H' p' ds', Bt c H H' → CR H' c (bb + 10) → H p' = none → Own K H2 H' c p' (n + 1) ds' → Q (.ref p') H') : spBent K [.ref c, .ref p] H Q E := by
  obtain ⟨xs, hp, xl, hd⟩ := own_cut own
  refine ⟨c, p, bb, xs, ds, rfl, hc, hB, own.ne, hp, hd, Nat.le_trans own.it.ln hn, fun H' p' ys kk qq d np ne hp' hd' c' b' tm lay dp ni => ?_⟩
  exact k H' p' _ b' c' np ⟨⟨ys, hp', hd'⟩, gone_bt b2 ne np, ne, own.it.bend (Nat.le_add_right _ _) tm lay dp ni⟩
theorem cut_in {te : TE} {σ : L2.St} {H2 H : Hp} {Q : VK} {c q : Addr} {n kn bb m : Nat} {es : List PyData} (h8 : σ[8]? = some (some (.ref q))) (h9 : σ[9]? = some (some (.int (kn : Nat)))) (hc : CR H c bb) (own : Own K H2 H c q n es) (b2 : Bt c H2 H) (hn : n ≤ 200) (hk : kn ≤ es.length)
    (ht : ∀ (H1 : Hp) (Q1 : VK), Same H H1 → (∀ H' v d, CR H' c (bb + m) → Bt c H1 H' → Dp K (hide c H') v d → tame d = true → d.canLay0 = true → d.depth ≤ 2 → Nice d → Q1 v H') → te σ H1 Q1)
    (k : ∀ H' q' es', Bt c H H' → CR H' c (bb + m) → H q' = none → Own K H2 H' c q' (n + 1) es' → Q (.ref q') H') :
    tOp rCat (tOp rCat (tSl (rSlL K) (tVar 8) tNoPart (tPart (tVar 9))) (tLst (tCons te tNil))) (tSl (rSlL K) (tVar 8) (tPart (tVar 9)) tNoPart) σ H Q := by
  obtain ⟨xs, hq, xl, hd⟩ := own_cut own
  have ln := own.it.ln
  refine ⟨_, h8, _, h9, _, rfl, q, xs, rfl, SqL.of hq, fun P1 nP1 => ?_⟩
  rw [cut_take (by omega)]
  have s1 := same_new (o := .lst (xs.take kn)) nP1
  have hP1 := upd_same (H := H) (a := P1) (o := .lst (xs.take kn))
  have nc1 := (hc.fresh nP1).symm
  generalize L2.upd H P1 (.lst (xs.take kn)) = H1 at *
  refine ht H1 _ s1 fun H3 v d c3 b3 dv tm lay dp ni => ?_
  refine ⟨by show 1 ≤ sizeLine; decide, fun P2 nP2 => ?_⟩
  have s2 := same_new (o := .lst [v]) nP2
  have hP2 := upd_same (H := H3) (a := P2) (o := .lst [v])
  generalize L2.upd H3 P2 (.lst [v]) = H4 at *
  have b4 : Bt c H H4 := ((Bt.of s1).trans b3).trans (Bt.of s2)
  have b14 : Bt c H1 H4 := b3.trans (Bt.of s2)
  have c4 := c3.same s2
  refine ⟨P1, P2, _, _, rfl, rfl, b14 _ _ nc1 hP1, hP2, ?_, fun P3 nP3 => ?_⟩
  · rw [List.length_take]
    exact Nat.le_trans (by simp only [List.length_singleton]; omega : min kn xs.length + [v].length ≤ 1000) sz1000
  have s3 := same_new (o := .lst (xs.take kn ++ [v])) nP3
  have hP3 := upd_same (H := H4) (a := P3) (o := .lst (xs.take kn ++ [v]))
  generalize L2.upd H4 P3 (.lst (xs.take kn ++ [v])) = H5 at *
  have b5 := b4.trans (Bt.of s3)
  refine ⟨_, h8, _, h9, _, rfl, q, xs, rfl, SqL.of (b5 _ _ own.ne hq), fun P4 nP4 => ?_⟩
  rw [cut_drop]
  have s4 := same_new (o := .lst (xs.drop kn)) nP4
  have hP4 := upd_same (H := H5) (a := P4) (o := .lst (xs.drop kn))
  generalize L2.upd H5 P4 (.lst (xs.drop kn)) = H6 at *
  refine ⟨P3, P4, _, _, rfl, rfl, s4 _ _ hP3, hP4, ?_, fun P5 nP5 => ?_⟩
  · refine Nat.le_trans ?_ (show 2000 ≤ sizeLine by decide)
    rw [List.length_append, List.length_take, List.length_drop]
    simp only [List.length_singleton]
    omega
  have s5 := same_new (o := .lst (xs.take kn ++ [v] ++ xs.drop kn)) nP5
  have hP5 := upd_same (H := H6) (a := P5) (o := .lst (xs.take kn ++ [v] ++ xs.drop kn))
  generalize L2.upd H6 P5 (.lst (xs.take kn ++ [v] ++ xs.drop kn)) = H7 at *
  have c6 := (c4.same s3).same s4
  have b6 := b5.trans (Bt.of s4)
  have b7 := b6.trans (Bt.of s5)
  have nc5 := (c6.fresh nP5).symm
  have b37 : Bt c H3 H7 := ((Bt.of s2).trans ((Bt.of s3).trans (Bt.of s4))).trans (Bt.of s5)
  have hdx := dps_same (hide_bt b7) hd
  exact k H7 P5 _ b7 (c6.same s5) (gone_bt b6 nc5 nP5) ⟨⟨_, hP5, dps_app (dps_app (dps_take kn hdx) (.cons (dp_same (hide_bt b37) dv) .nil)) (dps_drop kn hdx)⟩, gone_bt (b2.trans b6) nc5 nP5, nc5, own.it.bend (Nat.le_refl _) tm lay dp ni⟩
theorem ps_t1 (R : Fns P w K mg base CC) (B : Bl mg) (hr : Room 9 (XL P w K mg base f cdv A outer s H0 E).A) : ∃ t, PS (XL P w K mg base f cdv A outer s H0 E) (nth bTrial 1) t ∧ ∀ (D : Ends) (H2 H : Hp) (c p q : Addr) (bb : Nat) (tr : Int) (ds es : List PyData) (x0 x1 x3 x4 x5 x9 x10 x11 x12 x13 x14 x15 x16 x17 : Option V),
    CR H c bb → bb + 100 < 10 ^ 12 → Bt c H2 H → p ≠ q → Own K H2 H c p 40 ds → Own K H2 H c q 40 es →
    (∀ (H' : Hp) (p' q' : Addr) (ds' es' : List PyData) (y9 y10 : Option V), Bt c H H' → CR H' c (bb + 40) → p' ≠ q' → Own K H2 H' c p' 42 ds' → Own K H2 H' c q' 42 es' → D.nx [x0, x1, some (.ref c), x3, x4, x5, some (.int tr), some (.ref p'), some (.ref q'), y9, y10, x11, x12, x13, x14, x15, x16, x17] H') →
    t D [x0, x1, some (.ref c), x3, x4, x5, some (.int tr), some (.ref p), some (.ref q), x9, x10, x11, x12, x13, x14, x15, x16, x17] H := by
  refine ⟨_, ps_if (PW.pt (pw_and (pt_cmpR op_gt (pv 6) pe_int (nomark _)) (pw_and1 (pt_cmpR op_eq (pe_call (E := E0) R.oP (hr.mono (by decide)) rfl R.gP R.kP R.bP .nil pass0 (pa_cons (pv 2) (pa_cons pe_int pa_nil))) pe_int (nomark _))))) (pss_cons (ps_set (i := 7) scLaw.nd rfl (Or.inl rfl) (pe_call (E := E0) R.oB (hr.mono (by decide)) rfl R.gB R.kB R.bB .nil pass0 (pa_cons (pv 2) (pa_cons (pv 7) pa_nil))))
      (pss_one (ps_if (pt_cmpR op_eq (pe_call (E := E0) R.oP (hr.mono (by decide)) rfl R.gP R.kP R.bP .nil pass0 (pa_cons (pv 2) (pa_cons pe_int pa_nil))) pe_int (nomark _)) (pss_one (ps_set (i := 7) scLaw.nd rfl (Or.inl rfl) (pe_call (E := E0) R.oB (hr.mono (by decide)) rfl R.gB R.kB R.bB .nil pass0 (pa_cons (pv 2) (pa_cons (pv 7) pa_nil))))) pss_nil))) (pss_one (ps_if (pt_cmpR op_gt (pv 6) pe_int (nomark _)) (pss_cons (ps_par (i := 9) (j := 10) rfl scLaw.nd rfl rfl (by decide) rfl rfl (pa_cons (pe_call (E := E0) R.oP (hr.mono (by decide)) rfl R.gP R.kP R.bP .nil pass0 (pa_cons (pv 2) (pa_cons (pe_op op_add (pe_callB call_len_seq (by rfl) (B "len" (by decide)) (by decide +kernel) (pa_cons (pv 8) pa_nil)) pe_int) pa_nil))) (pa_cons (pe_call (E := E0) R.oO (hr.mono (by decide)) rfl R.gO R.kO R.bO .nil pass0 (pa_cons (pv 2) (pa_cons (pe_callB call_len_seq (by rfl) (B "len" (by decide)) (by decide +kernel) (pa_cons (pv 7) pa_nil)) pa_nil))) pa_nil)) (by rfl))
      (pss_cons (ps_set (i := 8) scLaw.nd rfl (Or.inl rfl) (pe_op op_cat (pe_op op_cat (pe_slice sl_list (pv 8) po_none (po_some (pv 9))) (pe_lst (pa_cons (pe_ifExp (pt_cmpR op_gt (pe_call (E := E0) R.oP (hr.mono (by decide)) rfl R.gP R.kP R.bP .nil pass0 (pa_cons (pv 2) (pa_cons pe_int pa_nil))) pe_int (nomark _)) (pv 10) (pe_ix ix_list (pe_op op_cat (pv 8) (pe_lst (pa_cons pe_int pa_nil))) pe_int (fun _ _ => rfl))) pa_nil))) (pe_slice sl_list (pv 8) (po_some (pv 9)) po_none)))
      (pss_one (ps_if (pt_cmpR op_eq (pe_call (E := E0) R.oP (hr.mono (by decide)) rfl R.gP R.kP R.bP .nil pass0 (pa_cons (pv 2) (pa_cons pe_int pa_nil))) pe_int (nomark _)) (pss_cons (ps_set (i := 9) scLaw.nd rfl (Or.inl rfl) (pe_call (E := E0) R.oP (hr.mono (by decide)) rfl R.gP R.kP R.bP .nil pass0 (pa_cons (pv 2) (pa_cons (pe_op op_add (pe_callB call_len_seq (by rfl) (B "len" (by decide)) (by decide +kernel) (pa_cons (pv 8) pa_nil)) pe_int) pa_nil))))
      (pss_one (ps_set (i := 8) scLaw.nd rfl (Or.inl rfl) (pe_op op_cat (pe_op op_cat (pe_slice sl_list (pv 8) po_none (po_some (pv 9))) (pe_lst (pa_cons (pe_call (E := E0) R.oO (hr.mono (by decide)) rfl R.gO R.kO R.bO .nil pass0 (pa_cons (pv 2) (pa_cons (pe_callB call_len_seq (by rfl) (B "len" (by decide)) (by decide +kernel) (pa_cons (pv 7) pa_nil)) pa_nil))) pa_nil))) (pe_slice sl_list (pv 8) (po_some (pv 9)) po_none))))) pss_nil)))) pss_nil)), ?_⟩
  intro D H2 H c p q bb tr ds es x0 x1 x3 x4 x5 x9 x10 x11 x12 x13 x14 x15 x16 x17 hc hB b2 pq op oq k
  refine ⟨_, rfl, _, _, rfl, rfl, _, rfl, ?_⟩
  by_cases tp : tr > 0
  · refine LK.ifT (decide_eq_true tp) ?_
    refine ⟨_, rfl, c, 2, bb, rfl, by decide, by decide, hc, by omega, fun d H1 d0 d1 c1 b1 n1 => ⟨rfl, _, rfl, ?_⟩⟩
    have b21 := b2.trans b1
    obtain ⟨_, hp1, _, _⟩ := own_cut (op.bt b1)
    obtain ⟨_, hq1, _, _⟩ := own_cut (oq.bt b1)
    by_cases z : d = 0
    · refine LK.ifT (by simp [z]) ?_
      refine ⟨_, rfl, _, rfl, ?_⟩
      dsimp only [tNil, List.cons_append, List.nil_append]
      refine bent_at (op.bt b1) (by decide) b21 c1 (by omega) fun H3 p3 ds3 b3 c3 np3 o3 => ?_
      have hq3 := b3 _ _ oq.ne hq1
      refine ⟨_, rfl, c, 2, _, rfl, by decide, by decide, c3, by omega, fun d' H4 d0' d1' c4 b4 n4 => ⟨rfl, _, rfl, ?_⟩⟩
      by_cases z' : d' = 0
      · refine LK.ifT (by simp [z']) ?_
        refine ⟨_, rfl, _, rfl, ?_⟩
        dsimp only [tNil, List.cons_append, List.nil_append]
        refine bent_at (o3.bt b4) (by decide) ((b21.trans b3).trans b4) c4 (by omega) fun H5 p5 ds5 b5 c5 np5 o5 => ?_
        exact k H5 p5 q ds5 es _ _ (((b1.trans b3).trans b4).trans b5) (c5.mono (by omega)) (ne_of_none (b4 _ _ oq.ne hq3) np5).symm o5 ⟨((((oq.bt b1).bt b3).bt b4).bt b5).ex, oq.new, oq.ne, ⟨by have := oq.it.ln; omega, oq.it.tm, oq.it.lay, oq.it.dp, oq.it.ne, oq.it.wt⟩⟩
      · refine LK.ifF (by simp [z']) ?_
        exact k H4 p3 q ds3 es _ _ ((b1.trans b3).trans b4) (c4.mono (by omega)) (ne_of_none hq1 np3).symm (Own.more (o3.bt b4) (by decide)) (Own.more (((oq.bt b1).bt b3).bt b4) (by decide))
    · refine LK.ifF (by simp [z]) ?_
      refine ⟨_, rfl, _, _, rfl, rfl, _, rfl, LK.ifT (decide_eq_true tp) ?_⟩
      obtain ⟨xs, hp1, xl, hd1⟩ := own_cut (op.bt b1)
      obtain ⟨ys, hq1, yl, he1⟩ := own_cut (oq.bt b1)
      have lq := oq.it.ln
      have lp := op.it.ln
      refine ⟨_, rfl, _, rfl, q, ys, rfl, .inl (SqL.of hq1), _, _, rfl, rfl, c, _, bb + 1, rfl, by omega, by omega, c1, by omega, fun kk H2' k0 k1 c2 b2' n2 => ?_⟩
      obtain ⟨kn, rfl⟩ := Int.eq_ofNat_of_zero_le k0
      refine ⟨_, rfl, _, rfl, p, xs, rfl, .inl (SqL.of (b2' _ _ op.ne hp1)), c, _, bb + 2, rfl, by omega, by omega, c2, by omega, fun H3 od d3 c3 b3 hod tmd layd dpd nid => ⟨_, _, rfl, ?_⟩⟩
      have b13 := b1.trans (b2'.trans b3)
      have oq3 := oq.bt b13
      dsimp only [tAsg]
      refine cut_in (kn := kn) (m := 1) rfl rfl c3 oq3 (b2.trans b13) (by decide) (by omega) (fun H4 Q1 s4 kq => ?_) (fun H5 q5 es5 b5 c5 nq5 o5 => ?_)
      · refine ⟨_, rfl, c, 3, _, rfl, by decide, by decide, c3.same s4, by omega, fun d5 H5 d50 d51 c5 b5 n5 => ⟨_, _, rfl, rfl, _, rfl, ?_⟩⟩
        have b35 := (Bt.of s4).trans b5
        by_cases g : d5 > 0
        · exact LK.ifT (decide_eq_true g) ⟨_, rfl, kq H5 od d3 c5 b5 (dp_same (hide_bt b35) hod) tmd layd dpd nid⟩
        · refine LK.ifF (decide_eq_false g) ?_
          obtain ⟨ys', hq5, yl', he5⟩ := own_cut (oq3.bt b35)
          refine ⟨_, rfl, by show 1 ≤ sizeLine; decide, fun P1 nP1 => ?_⟩
          have s6 := same_new (o := .lst [V.int 0]) nP1
          have hP1 := upd_same (H := H5) (a := P1) (o := .lst [V.int 0])
          generalize L2.upd H5 P1 (.lst [V.int 0]) = H6 at *
          refine ⟨q, P1, ys', _, rfl, rfl, s6 _ _ hq5, hP1, ?_, fun P2 nP2 => ?_⟩
          · rw [yl']
            exact Nat.le_trans (by simp only [List.length_singleton]; omega : es.length + [V.int 0].length ≤ 1000) sz1000
          have s7 := same_new (o := .lst (ys' ++ [V.int 0])) nP2
          have hP2 := upd_same (H := H6) (a := P2) (o := .lst (ys' ++ [V.int 0]))
          generalize L2.upd H6 P2 (.lst (ys' ++ [V.int 0])) = H7 at *
          have b57 : Bt c H5 H7 := (Bt.of s6).trans (Bt.of s7)
          have all : DpAll K (hide c H7) (ys' ++ [V.int 0]) (es ++ [.int 0]) := dps_app (dps_same (hide_bt b57) he5) (.cons (.int 0) .nil)
          obtain ⟨v, d, hv, hd', dv⟩ := dps_at all (i := 0) (by simp)
          have it0 : Items 41 (es ++ [.int 0]) := by
            have := oq.it.bend (k := es.length) (j := es.length) (d := .int 0) (Nat.le_refl _) rfl rfl (by decide) (nice_int (by decide))
            simpa using this
          obtain ⟨_, each⟩ := Items.iff.mp it0
          obtain ⟨e1, e2, e3, e4⟩ := each d (List.mem_of_getElem? hd')
          exact ⟨P2, _, _, v, rfl, rfl, SqL.of hP2, atI_nat (j := 0) hv, kq H7 v d ((c5.same s6).same s7) (b5.trans b57) dv e1 e2 e3 e4⟩
      · have b15 := b13.trans b5
        have b25 := b2.trans b15
        obtain ⟨_, hp3, _, _⟩ := own_cut (op.bt b13)
        dsimp only [gName, List.set]
        refine ⟨_, rfl, c, 2, _, rfl, by decide, by decide, c5, by omega, fun d' H6 d0' d1' c6 b6 n6 => ⟨rfl, _, rfl, ?_⟩⟩
        have pq5 : p ≠ q5 := ne_of_none hp3 nq5
        by_cases z' : d' = 0
        · refine LK.ifT (by simp [z']) ?_
          obtain ⟨zs, hz6, zl, hz⟩ := own_cut (o5.bt b6)
          have l5 := o5.it.ln
          refine ⟨_, rfl, _, rfl, q5, zs, rfl, .inl (SqL.of hz6), _, _, rfl, rfl, c, _, _, rfl, by omega, by omega, c6, by omega, fun k7 H7 k70 k71 c7 b7 n7 => ?_⟩
          obtain ⟨k7n, rfl⟩ := Int.eq_ofNat_of_zero_le k70
          dsimp only [gName, List.set, tAsg]
          have o57 := (o5.bt b6).bt b7
          have b17 := (b15.trans b6).trans b7
          refine cut_in (kn := k7n) (m := 1) rfl rfl c7 o57 (b2.trans b17) (by decide) (by omega) (fun H8 Q1 s8 kq => ?_) (fun H9 q9 es9 b9 c9 nq9 o9 => ?_)
          · obtain ⟨xs8, hp8, xl8, _⟩ := own_cut (op.bt (b17.trans (Bt.of s8)))
            exact ⟨_, rfl, _, rfl, p, xs8, rfl, .inl (SqL.of hp8), c, _, _, rfl, by omega, by omega, c7.same s8, by omega, fun H9 v d c9 b9 dv t1 t2 t3 t4 => kq H9 v d c9 b9 dv t1 t2 t3 t4⟩
          · have b19 := b17.trans b9
            obtain ⟨_, hp7, _, _⟩ := own_cut (op.bt b17)
            exact k H9 p q9 ds es9 _ _ b19 (c9.mono (by omega)) (ne_of_none hp7 nq9) ((op.bt b19).more (by decide)) o9
        · refine LK.ifF (by simp [z']) ?_
          exact k H6 p q5 ds es5 _ _ (b15.trans b6) (c6.mono (by omega)) pq5 ((op.bt (b15.trans b6)).more (by decide)) ((o5.bt b6).more (by decide))
  · refine LK.ifF (decide_eq_false tp) ?_
    refine ⟨_, rfl, _, _, rfl, rfl, _, rfl, LK.ifF (decide_eq_false tp) ?_⟩
    exact k H p q ds es _ _ (Bt.refl c H) (hc.mono (by omega)) pq (Own.more op (by decide)) (Own.more oq (by decide))
end
end K1
namespace K1
open PySem PySem.Spec PyProof.Rows L2 LK
section
variable {P : Program} {w : World} {K : PySem.W.Frag} {mg : Str → Option Value} {base : Heap} {f CC : Addr} {cdv : Value} {A : Around} {outer : List Env} {s : Shared} {H0 : Hp} {E : XK}
theorem notL_tup {ds : List PyData} : isK (.tuple ds) "list" = false := by
  show (kitB "tuple" "list").getD false = false
  decide +kernel
theorem ps_t2 (R : Fns P w K mg base CC) (B : Bl mg) (hr : Room 9 (XL P w K mg base f cdv A outer s H0 E).A) : ∃ t, PS (XL P w K mg base f cdv A outer s H0 E) (nth bTrial 2) t ∧ ∀ (D : Ends) (H2 H : Hp) (c p : Addr) (bb : Nat) (ds : List PyData) (x0 x1 x3 x4 x5 x6 x8 x9 x10 x11 x12 x13 x14 x15 x16 x17 : Option V),
    CR H c bb → bb + 100 < 10 ^ 12 → Own K H2 H c p 42 ds →
    (∀ (H' : Hp) (u : V) (d : PyData), Bt c H H' → CR H' c (bb + 2) → Got K H2 H' c u d → ((u = .ref p ∧ d = .list ds) ∨ isK d "list" = false) → D.nx [x0, x1, some (.ref c), x3, x4, x5, x6, some u, x8, x9, x10, x11, x12, x13, x14, x15, x16, x17] H') →
    t D [x0, x1, some (.ref c), x3, x4, x5, x6, some (.ref p), x8, x9, x10, x11, x12, x13, x14, x15, x16, x17] H := by
  refine ⟨_, ps_if (pt_cmpR op_eq (pe_call (E := E0) R.oP (hr.mono (by decide)) rfl R.gP R.kP R.bP .nil pass0 (pa_cons (pv 2) (pa_cons pe_int pa_nil))) pe_int (nomark _)) (pss_one (ps_set (i := 7) scLaw.nd rfl (Or.inl rfl) (pe_ix ix_list (pe_lst (pa_cons (pe_callTy call_tuple_of (by rfl) (B "tuple" (by decide)) (by decide +kernel) (pa_cons (pv 7) pa_nil)) (pa_cons pe_non (pa_cons pe_str (pa_cons pe_int pa_nil))))) (pe_call (E := E0) R.oP (hr.mono (by decide)) rfl R.gP R.kP R.bP .nil pass0 (pa_cons (pv 2) (pa_cons pe_int pa_nil))) (fun _ _ => rfl)))) pss_nil, ?_⟩
  intro D H2 H c p bb ds x0 x1 x3 x4 x5 x6 x8 x9 x10 x11 x12 x13 x14 x15 x16 x17 hc hB op k
  refine ⟨_, rfl, c, 14, bb, rfl, by decide, by decide, hc, by omega, fun d H1 d0 d1 c1 b1 n1 => ⟨rfl, _, rfl, ?_⟩⟩
  by_cases z : d = 0
  · refine LK.ifT (by simp [z]) ?_
    obtain ⟨xs, hp, xl, hd⟩ := own_cut (op.bt b1)
    refine ⟨_, rfl, p, xs, rfl, .inl ⟨SqL.of hp, fun T nT => ⟨by show 4 ≤ sizeLine; decide, fun S nS => ?_⟩⟩⟩
    have s2 := same_new (o := .tup xs) nT
    have hT := upd_same (H := H1) (a := T) (o := .tup xs)
    have ncT := (c1.fresh nT).symm
    generalize L2.upd H1 T (.tup xs) = H2' at *
    have s3 := same_new (o := .lst [.ref T, .non, .str "a", .int 3]) nS
    have hS := upd_same (H := H2') (a := S) (o := .lst [.ref T, .non, .str "a", .int 3])
    have c2 := c1.same s2
    have ncS := (c2.fresh nS).symm
    generalize L2.upd H2' S (.lst [.ref T, .non, .str "a", .int 3]) = H3 at *
    refine ⟨_, rfl, c, 4, _, rfl, by decide, by decide, c2.same s3, by omega, fun q H4 q0 q1 c4 b4 n4 => ?_⟩
    have b24 : Bt c H2' H4 := (Bt.of s3).trans b4
    have bal := b1.trans ((Bt.of s2).trans b24)
    have hT4 := b24 _ _ ncT hT
    have hS4 := b4 _ _ ncS hS
    obtain rfl | rfl | rfl | rfl : q = 0 ∨ q = 1 ∨ q = 2 ∨ q = 3 := by omega
    · refine ⟨S, _, 0, _, rfl, rfl, SqL.of hS4, rfl, k H4 _ (.tuple ds) bal c4 ⟨.tup (.inl (.inl (hide_at ncT hT4))) (dps_same (hide_bt ((Bt.of s2).trans b24)) hd), (op.it.good (by decide)).2, .inl notL_tup⟩ (.inr notL_tup)⟩
    · exact ⟨S, _, 1, _, rfl, rfl, SqL.of hS4, rfl, k H4 _ .none bal c4 ⟨.non, ⟨rfl, rfl, by decide, rfl, by decide⟩, .inl (by decide +kernel)⟩ (.inr (by decide +kernel))⟩
    · exact ⟨S, _, 2, _, rfl, rfl, SqL.of hS4, rfl, k H4 _ (.str "a") bal c4 ⟨.str _, ⟨by decide +kernel, by decide +kernel, by decide +kernel, by decide +kernel, by decide +kernel⟩, .inl (by decide +kernel)⟩ (.inr (by decide +kernel))⟩
    · exact ⟨S, _, 3, _, rfl, rfl, SqL.of hS4, rfl, k H4 _ (.int 3) bal c4 ⟨.int _, ⟨by decide +kernel, by decide +kernel, by decide +kernel, by decide +kernel, by decide +kernel⟩, .inl (by decide +kernel)⟩ (.inr (by decide +kernel))⟩
  · refine LK.ifF (by simp [z]) ?_
    exact k H1 _ _ b1 (c1.mono (by omega)) ((op.bt b1).got (by decide)) (.inl ⟨rfl, rfl⟩)
theorem ps_t3 (R : Fns P w K mg base CC) (B : Bl mg) (hr : Room 9 (XL P w K mg base f cdv A outer s H0 E).A) : ∃ t, PS (XL P w K mg base f cdv A outer s H0 E) (nth bTrial 3) t ∧ ∀ (D : Ends) (H2 H : Hp) (c p : Addr) (bb : Nat) (ds : List PyData) (x0 x1 x3 x4 x5 x6 x7 x9 x10 x11 x12 x13 x14 x15 x16 x17 : Option V),
    CR H c bb → bb + 100 < 10 ^ 12 → Own K H2 H c p 42 ds →
    (∀ (H' : Hp) (u : V) (d : PyData), Bt c H H' → CR H' c (bb + 2) → Got K H2 H' c u d → ((u = .ref p ∧ d = .list ds) ∨ isK d "list" = false) → D.nx [x0, x1, some (.ref c), x3, x4, x5, x6, x7, some u, x9, x10, x11, x12, x13, x14, x15, x16, x17] H') →
    t D [x0, x1, some (.ref c), x3, x4, x5, x6, x7, some (.ref p), x9, x10, x11, x12, x13, x14, x15, x16, x17] H := by
  refine ⟨_, ps_if (pt_cmpR op_eq (pe_call (E := E0) R.oP (hr.mono (by decide)) rfl R.gP R.kP R.bP .nil pass0 (pa_cons (pv 2) (pa_cons pe_int pa_nil))) pe_int (nomark _)) (pss_one (ps_set (i := 8) scLaw.nd rfl (Or.inl rfl) (pe_ix ix_list (pe_lst (pa_cons (pe_callTy call_tuple_of (by rfl) (B "tuple" (by decide)) (by decide +kernel) (pa_cons (pv 8) pa_nil)) (pa_cons pe_non (pa_cons pe_bl (pa_cons pe_int pa_nil))))) (pe_call (E := E0) R.oP (hr.mono (by decide)) rfl R.gP R.kP R.bP .nil pass0 (pa_cons (pv 2) (pa_cons pe_int pa_nil))) (fun _ _ => rfl)))) pss_nil, ?_⟩
  intro D H2 H c p bb ds x0 x1 x3 x4 x5 x6 x7 x9 x10 x11 x12 x13 x14 x15 x16 x17 hc hB op k
  refine ⟨_, rfl, c, 14, bb, rfl, by decide, by decide, hc, by omega, fun d H1 d0 d1 c1 b1 n1 => ⟨rfl, _, rfl, ?_⟩⟩
  by_cases z : d = 0
  · refine LK.ifT (by simp [z]) ?_
    obtain ⟨xs, hp, xl, hd⟩ := own_cut (op.bt b1)
    refine ⟨_, rfl, p, xs, rfl, .inl ⟨SqL.of hp, fun T nT => ⟨by show 4 ≤ sizeLine; decide, fun S nS => ?_⟩⟩⟩
    have s2 := same_new (o := .tup xs) nT
    have hT := upd_same (H := H1) (a := T) (o := .tup xs)
    have ncT := (c1.fresh nT).symm
    generalize L2.upd H1 T (.tup xs) = H2' at *
    have s3 := same_new (o := .lst [.ref T, .non, .bl true, .int 0]) nS
    have hS := upd_same (H := H2') (a := S) (o := .lst [.ref T, .non, .bl true, .int 0])
    have c2 := c1.same s2
    have ncS := (c2.fresh nS).symm
    generalize L2.upd H2' S (.lst [.ref T, .non, .bl true, .int 0]) = H3 at *
    refine ⟨_, rfl, c, 4, _, rfl, by decide, by decide, c2.same s3, by omega, fun q H4 q0 q1 c4 b4 n4 => ?_⟩
    have b24 : Bt c H2' H4 := (Bt.of s3).trans b4
    have bal := b1.trans ((Bt.of s2).trans b24)
    have hT4 := b24 _ _ ncT hT
    have hS4 := b4 _ _ ncS hS
    obtain rfl | rfl | rfl | rfl : q = 0 ∨ q = 1 ∨ q = 2 ∨ q = 3 := by omega
    · refine ⟨S, _, 0, _, rfl, rfl, SqL.of hS4, rfl, k H4 _ (.tuple ds) bal c4 ⟨.tup (.inl (.inl (hide_at ncT hT4))) (dps_same (hide_bt ((Bt.of s2).trans b24)) hd), (op.it.good (by decide)).2, .inl notL_tup⟩ (.inr notL_tup)⟩
    · exact ⟨S, _, 1, _, rfl, rfl, SqL.of hS4, rfl, k H4 _ .none bal c4 ⟨.non, ⟨rfl, rfl, by decide, rfl, by decide⟩, .inl (by decide +kernel)⟩ (.inr (by decide +kernel))⟩
    · exact ⟨S, _, 2, _, rfl, rfl, SqL.of hS4, rfl, k H4 _ (.bool true) bal c4 ⟨.bl _, ⟨by decide +kernel, by decide +kernel, by decide +kernel, by decide +kernel, by decide +kernel⟩, .inl (by decide +kernel)⟩ (.inr (by decide +kernel))⟩
    · exact ⟨S, _, 3, _, rfl, rfl, SqL.of hS4, rfl, k H4 _ (.int 0) bal c4 ⟨.int _, ⟨by decide +kernel, by decide +kernel, by decide +kernel, by decide +kernel, by decide +kernel⟩, .inl (by decide +kernel)⟩ (.inr (by decide +kernel))⟩
  · refine LK.ifF (by simp [z]) ?_
    exact k H1 _ _ b1 (c1.mono (by omega)) ((op.bt b1).got (by decide)) (.inl ⟨rfl, rfl⟩)
end
end K1
namespace K1
open PySem PySem.Spec PyProof.Rows L2 LK
/-- what is due, as a value -/
def DueV (H : Hp) (y : V) : Option (Str × Int) → Prop
  | none => y = .non
  | some (s, i) => ∃ t, y = .ref t ∧ H t = some (.tup [.str s, .int i])
theorem DueV.same {H H' : Hp} {y : V} {o : Option (Str × Int)} (h : DueV H y o) (s : Same H H') : DueV H' y o := by
  cases o with
  | none => exact h
  | some p =>
    obtain ⟨t, e, ht⟩ := h
    exact ⟨t, e, s _ _ ht⟩
section
variable {P : Program} {w : World} {K : PySem.W.Frag} {mg : Str → Option Value} {base : Heap} {f CC : Addr} {cdv : Value} {A : Around} {outer : List Env} {s : Shared} {H0 : Hp} {E : XK}
theorem Got.dpH {H2 H : Hp} {c : Addr} {v : V} {d : PyData} (g : Got K H2 H c v d) : Dp K H v d := dp_same hide_in g.dp
theorem ps_t4 (R : Fns P w K mg base CC) (B : Bl mg) (hr : Room 9 (XL P w K mg base f cdv A outer s H0 E).A) (hg : (XL P w K mg base f cdv A outer s H0 E).A.guards = some []) : ∃ t, PS (XL P w K mg base f cdv A outer s H0 E) (nth bTrial 4) t ∧ ∀ (D : Ends) (H2 H : Hp) (c : Addr) (u v : V) (d e : PyData) (x0 x1 x2 x3 x4 x5 x6 x9 x10 x11 x12 x13 x14 x15 x16 x17 : Option V),
    Got K H2 H c u d → Got K H2 H c v e →
    (∀ (H' : Hp) (y : V) (kt : Addr), Same H H' → H' kt = some (.tup [.str (textD d), .str (textD e)]) → DueV H' y (dueD d e) → D.nx [x0, x1, x2, x3, x4, x5, x6, some u, some v, x9, x10, some y, some (.ref kt), x13, x14, x15, x16, x17] H') →
    t D [x0, x1, x2, x3, x4, x5, x6, some u, some v, x9, x10, x11, x12, x13, x14, x15, x16, x17] H := by
  refine ⟨_, ps_par (i := 11) (j := 12) rfl scLaw.nd rfl rfl (by decide) rfl rfl (pa_cons (pe_call (E := E0) R.oD (hr.mono (by decide)) rfl R.gD R.kD R.bD .nil pass0 (pa_cons (pv 7) (pa_cons (pv 8) pa_nil))) (pa_cons (pe_tup (pa_cons (pe_callTy (cr_strA hg (hr.mono (show 0 ≤ 9 by decide)).units) (by rfl) (B "str" (by decide)) (by decide +kernel) (pa_cons (pv 7) pa_nil)) (pa_cons (pe_callTy (cr_strA hg (hr.mono (show 0 ≤ 9 by decide)).units) (by rfl) (B "str" (by decide)) (by decide +kernel) (pa_cons (pv 8) pa_nil)) pa_nil))) pa_nil)) (by rfl), ?_⟩
  intro D H2 H c u v d e x0 x1 x2 x3 x4 x5 x6 x9 x10 x11 x12 x13 x14 x15 x16 x17 gu gv k
  have fin : ∀ (H1 : Hp) (y : V), Same H H1 → DueV H1 y (dueD d e) → (tCons (tTup (tCons (tCB (rStrA K) (tCons (tVar 7) tNil)) (tCons (tCB (rStrA K) (tCons (tVar 8) tNil)) tNil))) tNil) [x0, x1, x2, x3, x4, x5, x6, some u, some v, x9, x10, x11, x12, x13, x14, x15, x16, x17] H1 (fun xs H' => ∃ a b, (y :: xs) = [a, b] ∧ D.nx (([x0, x1, x2, x3, x4, x5, x6, some u, some v, x9, x10, x11, x12, x13, x14, x15, x16, x17].set 11 (some a)).set 12 (some b)) H') := by
    intro H1 y s1 hy
    refine ⟨_, rfl, u, d, rfl, dp_same s1 gu.dpH, gu.gd.ne, gu.gd.lay, Nat.le_trans gu.gd.wt (by decide), Nat.le_trans gu.gd.dp (by decide), ?_⟩
    refine ⟨_, rfl, v, e, rfl, dp_same s1 gv.dpH, gv.gd.ne, gv.gd.lay, Nat.le_trans gv.gd.wt (by decide), Nat.le_trans gv.gd.dp (by decide), ?_⟩
    refine ⟨by show 2 ≤ sizeLine; decide, fun kt nk => ⟨_, _, rfl, ?_⟩⟩
    exact k _ y kt (s1.trans (same_new nk)) upd_same (hy.same (same_new nk))
  refine ⟨_, rfl, _, rfl, u, v, d, e, rfl, gu.dpH, gv.dpH, gu.gd.tm, gu.gd.lay, Nat.le_trans gu.gd.dp (by decide), gv.gd.tm, fun H1 s1 q => ?_, fun H1 p nm i np s1 hp q => ?_⟩
  · exact fin H1 .non s1 (by rw [q]; rfl)
  · exact fin H1 (.ref p) s1 (by rw [q]; exact ⟨p, rfl, hp⟩)
end
end K1
namespace K1
open PySem PySem.Spec PyProof.Rows L2 LK
section
variable {P : Program} {w : World} {K : PySem.W.Frag} {mg : Str → Option Value} {base : Heap} {f CC : Addr} {cdv : Value} {A : Around} {outer : List Env} {s : Shared} {H0 : Hp} {E : XK}
theorem made_isC {H H' : Hp} {x : Addr} {ls : List Lp} {ms : List Int} (h : Made K CC H H' x (ls.map lpD) ms) : IsC K CC H' x ls ms := by
  obtain ⟨dx, L, G, xs, _, _, _, _, _, _, h1, h2, h3, h4, _⟩ := h
  exact ⟨dx, L, G, xs, h1, h2, h3, h4⟩
/-- where nothing is due -/
theorem right_in {H2 H : Hp} {c : Addr} {u v : V} {d e : PyData} (gu : Got K H2 H c u d) (gv : Got K H2 H c v e) (q : dueD d e = none) (ns : List Int) (he : e = .list (ns.map PyData.int)) : ∃ (p p' : Addr) (ls : List Lp), u = .ref p ∧ v = .ref p' ∧ d = .list (ls.map lpD) ∧ Own K H2 H c p 63 (ls.map lpD) ∧ Own K H2 H c p' 63 (ns.map PyData.int) ∧ ls.length ≤ 63 ∧ PyData.canLayAll0 (ls.map lpD) = true ∧ (∀ l ∈ ls, l.2.length ≤ 1000) ∧ ns.length ≤ 63 := by
  have q1 := due_none q
  obtain ⟨ds, rfl⟩ := loops_none q1
  subst he
  obtain ⟨ls, rfl⟩ := valid_lps q1
  have no : ∀ xs : List PyData, isK (.list xs) "list" = true := fun xs => by
    show (kitB "list" "list").getD false = true
    decide +kernel
  rcases gu.own with z | ⟨p, ds, rfl, e1, o1⟩
  · rw [no] at z
    cases z
  rcases gv.own with z | ⟨p', es, rfl, e2, o2⟩
  · rw [no] at z
    cases z
  cases e1
  cases e2
  have l1 := o1.it.ln
  have l2 := o2.it.ln
  rw [List.length_map] at l1 l2
  exact ⟨p, p', ls, rfl, rfl, rfl, o1, o2, l1, o1.it.lay, lps_short o1.it.tm, l2⟩
theorem ps_t5 (R : Fns P w K mg base CC) (B : Bl mg) (it : InsTy K CC) (hr : Room 9 (XL P w K mg base f cdv A outer s H0 E).A) : ∃ t, PS (XL P w K mg base f cdv A outer s H0 E) (nth bTrial 5) t ∧ ∀ (D : Ends) (H2 H : Hp) (c : Addr) (u v y : V) (d e : PyData) (x0 x1 x2 x3 x4 x5 x6 x9 x10 x12 x13 x14 x15 x16 x17 : Option V),
    Got K H2 H c u d → Got K H2 H c v e → DueV H y (dueD d e) →
    (∀ (H' : Hp) (y13 y14 : Option V), Same H H' → D.nx [x0, x1, x2, x3, x4, x5, x6, some u, some v, x9, x10, some y, x12, y13, y14, x15, x16, x17] H') →
    t D [x0, x1, x2, x3, x4, x5, x6, some u, some v, x9, x10, some y, x12, x13, x14, x15, x16, x17] H := by
  refine ⟨_, ps_for PassesOwn.never rfl (pi_tup (pe_tup (pa_cons pe_int (pa_cons pe_int pa_nil)))) (pg_name (i := 13) scLaw.nd rfl (Or.inl rfl)) (pss_cons (ps_set (i := 14) scLaw.nd rfl (Or.inl rfl) (pe_call (E := E0) R.oM (hr.mono (by decide)) rfl R.gM R.kM R.bM .nil pass0 (pa_cons (pv 13) (pa_cons (pv 7) (pa_cons (pv 8) pa_nil)))))
      (pss_cons (ps_if (PW.pt (pw_and (pt_cmpR op_notN (pv 11) pe_non (nomark _)) (pw_and1 (pt_not (pt_val (pe_call (E := E0) R.oX (hr.mono (by decide)) rfl R.gX R.kX R.bX .nil pass0 (pa_cons (pv 14) (pa_cons (pv 11) pa_nil)))))))) (pss_one (ps_ret pe_bl)) pss_nil)
      (pss_cons (ps_if (PW.pt (pw_and (pt_cmpR op_isN (pv 11) pe_non (nomark _)) (pw_and1 (pt_val (pe_callB call_isi (by rfl) (B "isinstance" (by decide)) (by decide +kernel) (pa_cons (pv 14) (pa_cons (pe_bltn (v := .ty "tuple") rfl (B "tuple" (by decide)) (by decide +kernel) rfl) pa_nil))))))) (pss_one (ps_ret pe_bl)) pss_nil)
      (pss_one (ps_if (PW.pt (pw_and (pt_cmpR op_isN (pv 11) pe_non (nomark _)) (pw_and1 (pt_not (pt_val (pe_call (E := E0) R.oT (hr.mono (by decide)) rfl R.gT R.kT R.bT .nil pass0 (pa_cons (pv 14) (pa_cons (pv 7) (pa_cons (pv 8) pa_nil))))))))) (pss_one (ps_ret pe_bl)) pss_nil))))), ?_⟩
  intro D H2 H c u v y d e x0 x1 x2 x3 x4 x5 x6 x9 x10 x12 x13 x14 x15 x16 x17 gu gv hy k
  refine ⟨by show 2 ≤ sizeLine; decide, fun p np => ?_⟩
  have s1 := same_new (o := .tup [V.int 0, V.int 1]) np
  have hp := upd_same (H := H) (a := p) (o := .tup [V.int 0, V.int 1])
  generalize L2.upd H p (.tup [V.int 0, V.int 1]) = H1 at *
  refine ⟨p, rfl, ⟨_, .inl (.inl hp)⟩, ?_⟩
  refine for_tup (K := K) (a := p) (xs := [V.int 0, V.int 1]) (fun i σ H' => ∃ (y13 y14 : Option V), σ = [x0, x1, x2, x3, x4, x5, x6, some u, some v, x9, x10, some y, x12, y13, y14, x15, x16, x17] ∧ Same H1 H')
    ⟨_, _, rfl, Same.refl H1⟩ (fun i σ H' _ hI => .inl (.inl (hI.choose_spec.choose_spec.2 _ _ hp))) (fun i z σ H3 hz hI => ?_) (fun σ H3 hI => ?_)
  · obtain ⟨y13, y14, rfl, s3⟩ := hI
    have s13 := s1.trans s3
    have iz : ∃ way : Int, z = .int way := by
      match i, hz with
      | 0, hz => exact ⟨0, (Option.some.inj hz).symm⟩
      | 1, hz => exact ⟨1, (Option.some.inj hz).symm⟩
    obtain ⟨way, rfl⟩ := iz
    refine ⟨_, rfl, _, rfl, _, rfl, way, u, v, d, e, rfl, dp_same s13 gu.dpH, dp_same s13 gv.dpH, gu.gd.tm, gu.gd.lay, gv.gd.tm, fun sw i t H4 q nt ht s4 => ?_, fun ds ns ms x H4 q ed ee pm pw mk => ?_⟩
    · have s14 := s13.trans s4
      rw [q] at hy
      obtain ⟨t1, rfl, ht1⟩ := hy
      refine ⟨_, rfl, rfl, _, rfl, LK.ifT (by simp) ?_⟩
      have ss : (PyData.str sw).canLay0 = true := by
        rcases due_cases q with rfl | rfl <;> decide +kernel
      refine ⟨_, rfl, _, rfl, .ref t, .ref t1, .tuple [.str sw, .int i], rfl, .tup (.inl (.inl ht)) (.cons (.str _) (.cons (.int _) .nil)), .tup (.inl (.inl (s14 _ _ ht1))) (.cons (.str _) (.cons (.int _) .nil)), ?_, ?_, ?_, ?_, fun H5 s5 => ?_⟩
      · simp only [PyData.canLay0, PyData.canLayAll0, Bool.and_true]
        exact ss
      · simp [PyData.depth, PyData.depthAll]
      · simp [PyData.depth, PyData.depthAll]
      · rfl
      · refine ⟨_, rfl, LK.ifF rfl ?_⟩
        refine ⟨_, rfl, rfl, _, rfl, LK.ifF (by simp) (LK.ifF rfl ?_)⟩
        refine ⟨_, rfl, rfl, _, rfl, LK.ifF (by simp) (LK.ifF rfl ?_)⟩
        exact ⟨_, _, rfl, s3.trans (s4.trans s5)⟩
    · obtain ⟨p1, p2, ls, rfl, rfl, e1, o1, o2, l1, lay, l2, l3⟩ := right_in gu gv q ns ee
      subst ee
      cases e1
      cases ed
      rw [q] at hy
      cases (show y = V.non from hy)
      have s4 := mk.choose_spec.choose_spec.choose_spec.choose_spec.2.2.2.2.2.2.2.2.2.2
      have ic := made_isC mk
      obtain ⟨dx, L, G, xs, hx, _⟩ := id ic
      have s14 := s13.trans s4
      refine ⟨_, rfl, rfl, _, rfl, LK.ifF (by simp) (LK.ifF rfl ?_)⟩
      refine ⟨_, rfl, rfl, _, rfl, LK.ifT (by simp) ?_⟩
      refine ⟨_, rfl, _, _, _, _, false, rfl, .ty "tuple", it.ty hx, it.tup, _, rfl, LK.ifF rfl ?_⟩
      refine ⟨_, rfl, rfl, _, rfl, LK.ifT (by simp) ?_⟩
      refine ⟨_, rfl, _, rfl, _, rfl, x, _, _, ls, ns, ms, rfl, ic, dp_same s14 gu.dpH, dp_same s14 gv.dpH, pm, pw, l1, lay, l2, Nat.le_trans l3 (by decide), fun H5 s5 => ?_⟩
      refine ⟨_, rfl, LK.ifF rfl ?_⟩
      exact ⟨_, _, rfl, s3.trans (s4.trans s5)⟩
  · obtain ⟨y13, y14, rfl, s3⟩ := hI
    exact k H3 y13 y14 (s1.trans s3)
end
end K1
namespace K1
open PySem PySem.Spec PyProof.Rows L2 LK
section
variable {P : Program} {w : World} {K : PySem.W.Frag} {mg : Str → Option Value} {base : Heap} {f CC : Addr} {cdv : Value} {A : Around} {outer : List Env} {s : Shared} {H0 : Hp} {E : XK}
theorem ps_t6 (R : Fns P w K mg base CC) (B : Bl mg) (hr : Room 9 (XL P w K mg base f cdv A outer s H0 E).A) (hg : (XL P w K mg base f cdv A outer s H0 E).A.guards = some []) : ∃ t, PS (XL P w K mg base f cdv A outer s H0 E) (nth bTrial 6) t ∧ ∀ (D : Ends) (H2 H : Hp) (c kt : Addr) (u v : V) (d e : PyData) (x0 x1 x2 x3 x4 x5 x6 x9 x10 x11 x13 x14 x15 x16 x17 : Option V),
    Got K H2 H c u d → Got K H2 H c v e → H kt = some (.tup [.str (textD d), .str (textD e)]) →
    (∀ H' : Hp, Same H H' → D.nx [x0, x1, x2, x3, x4, x5, x6, some u, some v, x9, x10, x11, some (.ref kt), x13, x14, x15, x16, x17] H') →
    t D [x0, x1, x2, x3, x4, x5, x6, some u, some v, x9, x10, x11, some (.ref kt), x13, x14, x15, x16, x17] H := by
  refine ⟨_, ps_if (pt_cmpR (op_neD hr.units) (pv 12) (pe_tup (pa_cons (pe_callTy (cr_strA hg hr.units) (by rfl) (B "str" (by decide)) (by decide +kernel) (pa_cons (pv 7) pa_nil)) (pa_cons (pe_callTy (cr_strA hg hr.units) (by rfl) (B "str" (by decide)) (by decide +kernel) (pa_cons (pv 8) pa_nil)) pa_nil))) (nomark _)) (pss_one (ps_ret pe_bl)) pss_nil, ?_⟩
  intro D H2 H c kt u v d e x0 x1 x2 x3 x4 x5 x6 x9 x10 x11 x13 x14 x15 x16 x17 gu gv hk k
  refine ⟨_, rfl, _, rfl, u, d, rfl, gu.dpH, gu.gd.ne, gu.gd.lay, Nat.le_trans gu.gd.wt (by decide), Nat.le_trans gu.gd.dp (by decide), ?_⟩
  refine ⟨_, rfl, v, e, rfl, gv.dpH, gv.gd.ne, gv.gd.lay, Nat.le_trans gv.gd.wt (by decide), Nat.le_trans gv.gd.dp (by decide), ?_⟩
  refine ⟨by show 2 ≤ sizeLine; decide, fun T nT => ?_⟩
  have s1 := same_new (o := .tup [.str (textD d), .str (textD e)]) nT
  have t1 : (PyData.str (textD d)).canLay0 = true := ok_text gu.gd.lay
  have t2 : (PyData.str (textD e)).canLay0 = true := ok_text gv.gd.lay
  have lay : (PyData.tuple [.str (textD d), .str (textD e)]).canLay0 = true := by
    show PyData.canLayAll0 [.str (textD d), .str (textD e)] = true
    rw [PyData.canLayAll0, PyData.canLayAll0, t1, t2]
    rfl
  have sh : SeqAt.shaped (PyData.tuple [.str (textD d), .str (textD e)]) = true := shaped_of lay (by simp [PyData.depth, PyData.depthAll])
  refine ⟨.tuple [.str (textD d), .str (textD e)], .tuple [.str (textD d), .str (textD e)], .tup (.inl (.inl (s1 _ _ hk))) (.cons (.str _) (.cons (.str _) .nil)), .tup (.inl (.inl upd_same)) (.cons (.str _) (.cons (.str _) .nil)), sh, sh, ?_⟩
  rw [SeqAt.eqv_refl _ lay]
  exact ⟨_, rfl, LK.ifF rfl (k _ s1)⟩
theorem isL {xs : List PyData} : isK (.list xs) "list" = true := by
  show (kitB "list" "list").getD false = true
  decide +kernel
theorem ps_t7 (R : Fns P w K mg base CC) (B : Bl mg) (hr : Room 9 (XL P w K mg base f cdv A outer s H0 E).A) : ∃ t, PS (XL P w K mg base f cdv A outer s H0 E) (nth bTrial 7) t ∧ ∀ (D : Ends) (H2 H : Hp) (c : Addr) (bb : Nat) (u v y : V) (d e : PyData) (x0 x1 x2 x3 x4 x5 x6 x9 x10 x12 x13 x14 x15 x16 x17 : Option V),
    Got K H2 H c u d → Got K H2 H c v e → DueV H y (dueD d e) → CR H c bb → Bt c H2 H → (isK d "list" = true → isK e "list" = true → u ≠ v) →
    (∀ (H' : Hp) (y15 y16 y17 : Option V), Bt c H2 H' → CR H' c bb → D.nx [x0, x1, x2, x3, x4, x5, x6, some u, some v, x9, x10, some y, x12, x13, x14, y15, y16, y17] H') →
    t D [x0, x1, x2, x3, x4, x5, x6, some u, some v, x9, x10, some y, x12, x13, x14, x15, x16, x17] H := by
  refine ⟨_, ps_if (pt_cmpR op_isN (pv 11) pe_non (nomark _)) (pss_cons (ps_par (i := 15) (j := 16) rfl scLaw.nd rfl rfl (by decide) rfl rfl (pa_cons (pe_call (E := E0) R.oM (hr.mono (by decide)) rfl R.gM R.kM R.bM .nil pass0 (pa_cons pe_int (pa_cons (pv 7) (pa_cons (pv 8) pa_nil)))) (pa_cons (pe_callTy call_list_of (by rfl) (B "list" (by decide)) (by decide +kernel) (pa_cons (pv 7) pa_nil)) pa_nil)) (by rfl))
      (pss_cons (ps_set (i := 17) scLaw.nd rfl (Or.inl rfl) (pe_callB L2.cr_sortedI (by rfl) (B "sorted" (by decide)) (by decide +kernel) (pa_cons (pv 8) pa_nil)))
      (pss_cons (ps_expr (pe_bm PySem.F.plainAttrs_list PySem.F.slot_list_append PySem.F.type_list_append mt_append (pv 7) (pa_cons (pe_tup (pa_cons pe_str (pa_cons (pe_tup pa_nil) pa_nil))) pa_nil)))
      (pss_cons (ps_expr (pe_bm PySem.F.plainAttrs_list PySem.F.slot_list_append PySem.F.type_list_append mt_append (pv 8) (pa_cons pe_int pa_nil)))
      (pss_one (ps_if (pt_not (pt_val (pe_call (E := E0) R.oT (hr.mono (by decide)) rfl R.gT R.kT R.bT .nil pass0 (pa_cons (pv 15) (pa_cons (pv 16) (pa_cons (pv 17) pa_nil)))))) (pss_one (ps_ret pe_bl)) pss_nil)))))) pss_nil, ?_⟩
  intro D H2 H c bb u v y d e x0 x1 x2 x3 x4 x5 x6 x9 x10 x12 x13 x14 x15 x16 x17 gu gv hy hc b2 apart k
  cases q : dueD d e with
  | some si =>
    obtain ⟨sw, i⟩ := si
    rw [q] at hy
    obtain ⟨t1, rfl, ht1⟩ := hy
    exact ⟨_, rfl, rfl, _, rfl, LK.ifF (by simp) (k H _ _ _ b2 hc)⟩
  | none =>
    rw [q] at hy
    cases (show y = V.non from hy)
    refine ⟨_, rfl, rfl, _, rfl, LK.ifT (by simp) ?_⟩
    refine ⟨_, rfl, _, rfl, 0, u, v, d, e, rfl, gu.dpH, gv.dpH, gu.gd.tm, gu.gd.lay, gv.gd.tm, fun sw i t H4 q' nt ht s4 => ?_, fun ds ns ms x H4 _ ed ee pm pw mk => ?_⟩
    · rw [q] at q'
      cases q'
    · obtain ⟨p, p', ls, rfl, rfl, e1, o1, o2, l1, lay, l2, l3⟩ := right_in gu gv q ns ee
      subst ee
      cases e1
      cases ed
      have pp : p ≠ p' := fun z => apart isL isL (by rw [z])
      obtain ⟨xs, hp, xl, hd⟩ := own_cut o1
      obtain ⟨ys, hp', yl, he⟩ := own_cut o2
      have ic := made_isC mk
      obtain ⟨dx, L, G, zs, nx, nL, nG, LG, xL, xG, hx, hL, hz, hG, s4⟩ := mk
      have ey : ys = ns.map V.int := ints_back he
      subst ey
      have hp4 := s4 _ _ hp
      have hp4' := s4 _ _ hp'
      refine ⟨_, rfl, p, xs, rfl, .inl (SqL.of hp4), fun q1 nq1 => ⟨_, _, rfl, ?_⟩⟩
      have s5 := same_new (o := .lst xs) nq1
      have hq1 := upd_same (H := H4) (a := q1) (o := .lst xs)
      generalize L2.upd H4 q1 (.lst xs) = H5 at *
      dsimp only [gName, List.set]
      refine ⟨_, rfl, p', ns, rfl, SqL.of (s5 _ _ hp4'), fun ms' r1 pm' pw' nr1 => ?_⟩
      have s6 := s5.trans (same_new (o := .lst (ms'.map V.int)) nr1)
      have hq16 := same_new (o := .lst (ms'.map V.int)) nr1 _ _ hq1
      have hr1 := upd_same (H := H5) (a := r1) (o := .lst (ms'.map V.int))
      generalize L2.upd H5 r1 (.lst (ms'.map V.int)) = H6 at *
      dsimp only [gName, List.set]
      refine ⟨_, rfl, .inl ⟨rfl, xs, SqL.of (s6 _ _ hp4)⟩, by show 0 ≤ sizeLine; decide, fun T1 nT1 => ⟨by show 2 ≤ sizeLine; decide, fun T2 nT2 => ?_⟩⟩
      have s8 : Same H6 (L2.upd (L2.upd H6 T1 (.tup [])) T2 (.tup [.str "zz", .ref T1])) := (same_new nT1).trans (same_new nT2)
      generalize L2.upd (L2.upd H6 T1 (.tup [])) T2 (.tup [.str "zz", .ref T1]) = H8 at *
      have s48 := s6.trans s8
      have hp8 := s48 _ _ hp4
      have hp8' := s48 _ _ hp4'
      have xlen : xs.length ≤ 1000 := by rw [xl, List.length_map]; omega
      refine ⟨p, xs, _, rfl, rfl, hp8, sz63 xlen, ?_⟩
      have hp9' : (L2.upd H8 p (.lst (xs ++ [V.ref T2]))) p' = some (.lst (ns.map V.int)) := by
        rw [upd_ne pp.symm]
        exact hp8'
      have tk9 := Tk.own (o := .lst (xs ++ [V.ref T2])) hp8
      have ne9 : ∀ {b : Addr}, b ≠ p → (L2.upd H8 p (.lst (xs ++ [V.ref T2]))) b = H8 b := fun nb => upd_ne nb
      refine ⟨_, rfl, .inl ⟨rfl, _, SqL.of hp9'⟩, p', _, _, rfl, rfl, hp9', sz63 (by rw [List.length_map]; omega), ?_⟩
      have tk10 := Tk.own (o := .lst (ns.map V.int ++ [V.int 0])) hp9'
      have ne10 : ∀ {b : Addr}, b ≠ p → b ≠ p' → (L2.upd (L2.upd H8 p (.lst (xs ++ [V.ref T2]))) p' (.lst (ns.map V.int ++ [V.int 0]))) b = H8 b := fun n1 n2 => by rw [upd_ne n2, upd_ne n1]
      have tk := tk9.trans tk10
      have fresh : ∀ {b : Addr}, H b = none → b ≠ p ∧ b ≠ p' := fun z => ⟨(ne_of_none hp z).symm, (ne_of_none hp' z).symm⟩
      have fresh4 : ∀ {b : Addr}, H4 b = none → b ≠ p ∧ b ≠ p' := fun z => ⟨(ne_of_none hp4 z).symm, (ne_of_none hp4' z).symm⟩
      have fresh5 : ∀ {b : Addr}, H5 b = none → b ≠ p ∧ b ≠ p' := fun z => ⟨(ne_of_none (s5 _ _ hp4) z).symm, (ne_of_none (s5 _ _ hp4') z).symm⟩
      have hx10 := (ne10 (fresh nx).1 (fresh nx).2).trans (s48 _ _ hx)
      have hL10 := (ne10 (fresh nL).1 (fresh nL).2).trans (s48 _ _ hL)
      have hG10 := (ne10 (fresh nG).1 (fresh nG).2).trans (s48 _ _ hG)
      have hq10 := (ne10 (fresh4 nq1).1 (fresh4 nq1).2).trans (s8 _ _ hq16)
      have hr10 := (ne10 (fresh5 nr1).1 (fresh5 nr1).2).trans (s8 _ _ hr1)
      have hd4 : DpAll K H4 xs (ls.map lpD) := dps_same (s4) (dps_same hide_in hd)
      generalize hH10 : L2.upd (L2.upd H8 p (.lst (xs ++ [V.ref T2]))) p' (.lst (ns.map V.int ++ [V.int 0])) = H10 at *
      refine ⟨_, rfl, _, rfl, _, rfl, x, .ref q1, .ref r1, ls, ms', ms, rfl, ⟨dx, L, G, zs, hx10, hL10, lps_tk tk (dps_same s48 hz), hG10⟩, .lst (SqL.of hq10) (lps_tk tk (dps_same s48 hd4)), .lst (SqL.of hr10) (dp_ints_of _), pm.trans pm'.symm, pw, l1, lay, l2, ?_, fun H11 s11 => ?_⟩
      · rw [pm'.length_eq]
        omega
      · refine ⟨_, rfl, LK.ifF rfl ?_⟩
        have c8 := hc.same (s4.trans s48)
        have c10 : CR H10 c bb := by
          rw [← hH10]
          exact (c8.upd o1.ne).upd o2.ne
        refine k H11 _ _ _ (Bt.trans ?_ (Bt.of s11)) (c10.same s11)
        intro b o nb hb
        rw [← hH10, upd_ne (ne_of_none hb o2.new), upd_ne (ne_of_none hb o1.new)]
        exact s48 _ _ (s4 _ _ (b2 b o nb hb))
end
end K1
namespace K1
open PySem PySem.Spec PyProof.Rows L2 LK MXg MXi MXk
/-- the class, its __init__, __eq__ -/
structure Cla (P : Program) (w : World) (K : PySem.W.Frag) (mg : Str → Option Value) (base : Heap) (CC CF CL : Addr) where
  (fC fQ : Addr)
  (dC dQ : FuncData)
  cc : Cls K CC
  n1 : NoAttr K CC "_loops"
  n2 : NoAttr K CC "_fast"
  it : InsTy K CC
  mC : Mk K CC fC
  oC : FnOk P w K mg base (L2N.CX P w) 6 fC dC ["self", "loops", "fast"] (spClo K CC CF CL)
  gC : mg "Cloth" = some (.ref CC)
  bC : Binds K dC ["self", "loops", "fast"] []
  eq : PySem.W.findIn K (.ref CC) "__eq__" = some (some (.ref fQ))
  eqF : PySem.W.isFn K (.ref fQ) = true
  bQ : Binds K dQ ["self", "other"] []
  oQ : FnOk P w K mg base CX0 1 fQ dQ ["self", "other"] (spEq (BothBare CC))
def spLaw (K : PySem.W.Frag) : Sp := fun vs H Q _ => ∃ (a : Addr) (ns : List Int), vs = [.ref a] ∧ SqL K H a (ns.map V.int) ∧ ns.length ≤ 63 ∧ ∀ H', Q (.bl true) H'
theorem Bare.ext {CC : Addr} {H H' : Hp} {x : Addr} (h : Bare CC H x) (s : Same H H') : Bare CC H' x := by
  obtain ⟨dx, L, G, h1, h2, h3⟩ := h
  exact ⟨dx, L, G, s _ _ h1, s _ _ h2, s _ _ h3⟩
theorem clo_nil {K : PySem.W.Frag} {CC CF CL : Addr} {H : Hp} {x dx l g : Addr} {Q : VK} {E : XK} (cc : Cls K CC) (n1 : NoAttr K CC "_loops") (n2 : NoAttr K CC "_fast") (hl : H l = some (.lst [])) (hg : H g = some (.lst [])) (nx : H x = none) (ndx : H dx = none)
    (k : ∀ H', Same H H' → Bare CC H' x → Q .non H') : spClo K CC CF CL [.ref x, .ref l, .ref g] (L2.upd (L2.upd H dx (.own x)) x (.ins CC dx [])) Q E := by
  have s0 : Same H (L2.upd (L2.upd H dx (.own x)) x (.ins CC dx [])) := fun b o e => by
    rw [upd_ne (ne_of_none e nx), upd_ne (ne_of_none e ndx)]
    exact e
  have due : dueD (.list []) (.list []) = none := rfl
  refine ⟨x, dx, .ref l, .ref g, .list [], .list [], rfl, upd_same, cc, n1, n2, .lst (SqL.of (s0 _ _ hl)) .nil, .lst (SqL.of (s0 _ _ hg)) .nil, rfl, rfl, rfl, fun i q => ?_, fun i q => ?_, fun ds ns ms L G H' xs q ed ee pm pw nL nG LG hx hL hxs hG bx => ?_⟩
  · rw [due] at q
    cases q
  · rw [due] at q
    cases q
  · cases ed
    cases hxs
    have e : ns = [] := by
      cases ns with
      | nil => rfl
      | cons a r => simp at ee
    subst e
    have em : ms = [] := List.Perm.eq_nil pm
    subst em
    exact k H' (fun b o e => bx b o (ne_of_none e nx) (s0 b o e)) ⟨dx, L, G, hx, hL, hG⟩
section
variable {P : Program} {w : World} {K : PySem.W.Frag} {mg : Str → Option Value} {base : Heap} {f CC CF CL : Addr} {cdv : Value} {A : Around} {outer : List Env} {s : Shared} {H0 : Hp} {E : XK}
/-- return Cloth([], []) == Cloth([], []) and len(Cloth([], [])) == 0 -/
theorem ps_end (C : Cla P w K mg base CC CF CL) (Pr : Prp P w K mg base CC) (B : Bl mg) (hr : Room 9 (XL P w K mg base f cdv A outer s H0 E).A) : ∃ t, PS (XL P w K mg base f cdv A outer s H0 E) (nth (defBody sLaw) 1) t ∧ ∀ (D : Ends) (σ : L2.St) (H : Hp), (∀ H', D.rt (.bl true) H') → t D σ H := by
  refine ⟨_, ps_ret (pe_and (pe_cmpR (op_eqG (rcG_ins (E := E0) C.oQ C.eq C.eqF C.bQ pass0) (hr.mono (by decide))) (pe_makeS C.mC C.oC (hr.mono (by decide)) rfl C.gC C.bC (fun σ => L2N.passAt none0 σ) (pa_cons (pe_lst pa_nil) (pa_cons (pe_lst pa_nil) pa_nil))) (pe_makeS C.mC C.oC (hr.mono (by decide)) rfl C.gC C.bC (fun σ => L2N.passAt none0 σ) (pa_cons (pe_lst pa_nil) (pa_cons (pe_lst pa_nil) pa_nil))) (nomark _))
    (pe_one (pe_cmpR op_eq (pe_callB (call_lenO (E := E0) Pr.aN Pr.oN (hr.mono (by decide)) Pr.bN pass0) (by rfl) (B "len" (by decide)) (by decide +kernel) (pa_cons (pe_makeS C.mC C.oC (hr.mono (by decide)) rfl C.gC C.bC (fun σ => L2N.passAt none0 σ) (pa_cons (pe_lst pa_nil) (pa_cons (pe_lst pa_nil) pa_nil))) pa_nil)) pe_int (nomark _)))), ?_⟩
  intro D σ H k
  refine ⟨by show 0 ≤ sizeLine; decide, fun l1 nl1 => ⟨by show 0 ≤ sizeLine; decide, fun g1 ng1 => fun x1 dx1 nx1 ndx1 ne1 => ?_⟩⟩
  refine clo_nil C.cc C.n1 C.n2 (same_new ng1 _ _ upd_same) upd_same nx1 ndx1 fun H1 s1 b1 => ⟨rfl, ?_⟩
  refine ⟨by show 0 ≤ sizeLine; decide, fun l2 nl2 => ⟨by show 0 ≤ sizeLine; decide, fun g2 ng2 => fun x2 dx2 nx2 ndx2 ne2 => ?_⟩⟩
  refine clo_nil C.cc C.n1 C.n2 (same_new ng2 _ _ upd_same) upd_same nx2 ndx2 fun H2 s2 b2 => ⟨rfl, ?_⟩
  have b12 := b1.ext (((same_new nl2).trans (same_new ng2)).trans s2)
  obtain ⟨d1, _, _, e1, _⟩ := id b12
  obtain ⟨d2, _, _, e2, _⟩ := id b2
  refine ⟨⟨x1, x2, d1, d2, _, _, rfl, rfl, e1, e2, b12, b2⟩, fun H3 s3 => ⟨_, rfl, LK.ifT rfl ?_⟩⟩
  refine ⟨by show 0 ≤ sizeLine; decide, fun l3 nl3 => ⟨by show 0 ≤ sizeLine; decide, fun g3 ng3 => fun x3 dx3 nx3 ndx3 ne3 => ?_⟩⟩
  refine clo_nil C.cc C.n1 C.n2 (same_new ng3 _ _ upd_same) upd_same nx3 ndx3 fun H4 s4 b4 => ⟨rfl, ?_⟩
  obtain ⟨d3, L3, G3, e3, e4, e5⟩ := b4
  refine ⟨x3, d3, _, rfl, e3, x3, d3, L3, _, [], rfl, e3, C.cc, C.n1, rfl, e4, 0, rfl, by decide, by decide, rfl, ?_⟩
  exact k H4
end
end K1
namespace K1
open PySem PySem.Spec PyProof.Rows L2 LK MXk
section
variable {P : Program} {w : World} {K : PySem.W.Frag} {mg : Str → Option Value} {base : Heap} {f CC CF CL : Addr} {cdv : Value} {A : Around} {outer : List Env} {s : Shared} {H0 : Hp} {E : XK}
/-- for trial in range(14) -/
theorem ps_trials (R : Fns P w K mg base CC) (B : Bl mg) (it : InsTy K CC) (hr : Room 9 (XL P w K mg base f cdv A outer s H0 E).A) (hg : (XL P w K mg base f cdv A outer s H0 E).A.guards = some []) : ∃ t, PS (XL P w K mg base f cdv A outer s H0 E) (nth bTurn 1) t ∧ ∀ (D : Ends) (H : Hp) (c L G : Addr) (bb : Nat) (xs : List V) (ds : List PyData) (fs : List Int) (x0 x1 x3 x6 x7 x8 x9 x10 x11 x12 x13 x14 x15 x16 x17 : Option V),
    CR H c bb → bb + 2000 < 10 ^ 12 → c ≠ L → c ≠ G → H L = some (.lst xs) → H G = some (.lst (fs.map V.int)) → DpAll K (hide c H) xs ds → Items 40 ds → Items 40 (fs.map PyData.int) →
    (∀ (H' : Hp) (y6 y7 y8 y9 y10 y11 y12 y13 y14 y15 y16 y17 : Option V), Bt c H H' → CR H' c (bb + 700) → D.nx [x0, x1, some (.ref c), x3, some (.ref L), some (.ref G), y6, y7, y8, y9, y10, y11, y12, y13, y14, y15, y16, y17] H') →
    t D [x0, x1, some (.ref c), x3, some (.ref L), some (.ref G), x6, x7, x8, x9, x10, x11, x12, x13, x14, x15, x16, x17] H := by
  obtain ⟨t0, p0, q0⟩ := ps_t0 (P := P) (w := w) (K := K) (mg := mg) (base := base) (f := f) (cdv := cdv) (A := A) (outer := outer) (s := s) (H0 := H0) (E := E) B
  obtain ⟨t1, p1, q1⟩ := ps_t1 R B hr
  obtain ⟨t2, p2, q2⟩ := ps_t2 R B hr
  obtain ⟨t3, p3, q3⟩ := ps_t3 R B hr
  obtain ⟨t4, p4, q4⟩ := ps_t4 R B hr hg
  obtain ⟨t5, p5, q5⟩ := ps_t5 R B it hr
  obtain ⟨t6, p6, q6⟩ := ps_t6 R B hr hg
  obtain ⟨t7, p7, q7⟩ := ps_t7 R B hr
  refine ⟨_, ps_for PassesOwn.never rfl (pi_range1 (by rfl) (B "range" (by decide)) (pa_cons pe_int pa_nil)) (pg_name (i := 6) scLaw.nd rfl (Or.inl rfl)) (pss_cons p0 (pss_cons p1 (pss_cons p2 (pss_cons p3 (pss_cons p4 (pss_cons p5 (pss_cons p6 (pss_one p7)))))))), ?_⟩
  intro D H c L G bb xs ds fs x0 x1 x3 x6 x7 x8 x9 x10 x11 x12 x13 x14 x15 x16 x17 hc hB cL cG hL hG hd il ig k
  refine ⟨_, rfl, by decide, by decide, ?_⟩
  refine for_range (lo := 0) (n := 14) (fun i σ H' => ∃ (y6 y7 y8 y9 y10 y11 y12 y13 y14 y15 y16 y17 : Option V), σ = [x0, x1, some (.ref c), x3, some (.ref L), some (.ref G), y6, y7, y8, y9, y10, y11, y12, y13, y14, y15, y16, y17] ∧ Bt c H H' ∧ CR H' c (bb + 50 * i))
    ⟨_, _, _, _, _, _, _, _, _, _, _, _, rfl, Bt.refl c H, hc⟩ (fun i σ Hi hi hI => ?_) (fun σ Hi hI => ?_)
  · obtain ⟨y6, y7, y8, y9, y10, y11, y12, y13, y14, y15, y16, y17, rfl, bi, ci⟩ := hI
    dsimp only [gName, List.set, tSeq]
    refine q0 _ Hi Hi c L G _ xs ds fs _ _ _ _ _ _ _ _ _ _ _ _ _ _ _ ci (Bt.refl c Hi) cL cG (bi _ _ cL.symm hL) (bi _ _ cG.symm hG) (dps_same (hide_bt bi) hd) il ig fun p q H1 b1 c1 pq op oq => ?_
    refine q1 _ Hi H1 c p q _ _ ds _ _ _ _ _ _ _ _ _ _ _ _ _ _ _ c1 (by omega) b1 pq op oq fun H2 p' q' ds' es' z9 z10 b2 c2 pq' op' oq' => ?_
    refine q2 _ Hi H2 c p' _ ds' _ _ _ _ _ _ _ _ _ _ _ _ _ _ _ _ c2 (by omega) op' fun H3 u d b3 c3 gu hu => ?_
    refine q3 _ Hi H3 c q' _ es' _ _ _ _ _ _ _ _ _ _ _ _ _ _ _ _ c3 (by omega) (oq'.bt b3) fun H4 v e b4 c4 gv hv => ?_
    have gu4 := gu.bt b4
    refine q4 _ Hi H4 c u v d e _ _ _ _ _ _ _ _ _ _ _ _ _ _ _ _ gu4 gv fun H5 y kt s5 hk hy => ?_
    have gu5 := gu4.bt (Bt.of s5)
    have gv5 := gv.bt (Bt.of s5)
    refine q5 _ Hi H5 c u v y d e _ _ _ _ _ _ _ _ _ _ _ _ _ _ _ gu5 gv5 hy fun H6 z13 z14 s6 => ?_
    have gu6 := gu5.bt (Bt.of s6)
    have gv6 := gv5.bt (Bt.of s6)
    refine q6 _ Hi H6 c kt u v d e _ _ _ _ _ _ _ _ _ _ _ _ _ _ _ gu6 gv6 (s6 _ _ hk) fun H7 s7 => ?_
    have gu7 := gu6.bt (Bt.of s7)
    have gv7 := gv6.bt (Bt.of s7)
    have b17 : Bt c Hi H7 := (((((b1.trans b2).trans b3).trans b4).trans (Bt.of s5)).trans (Bt.of s6)).trans (Bt.of s7)
    have c7 := ((c4.same s5).same s6).same s7
    refine q7 _ Hi H7 c _ u v y d e _ _ _ _ _ _ _ _ _ _ _ _ _ _ _ gu7 gv7 ((hy.same s6).same s7) c7 b17 (fun h1 h2 => ?_) fun H8 z15 z16 z17 b8 c8 => ?_
    · rcases hu with ⟨rfl, _⟩ | hu
      · rcases hv with ⟨rfl, _⟩ | hv
        · exact fun z => pq' (by cases z; rfl)
        · rw [hv] at h2
          cases h2
      · rw [hu] at h1
        cases h1
    · exact ⟨_, _, _, _, _, _, _, _, _, _, _, _, rfl, bi.trans b8, c8.mono (by omega)⟩
  · obtain ⟨y6, y7, y8, y9, y10, y11, y12, y13, y14, y15, y16, y17, rfl, bi, ci⟩ := hI
    exact k Hi _ _ _ _ _ _ _ _ _ _ _ _ bi ci
theorem ok_Law {fd : FuncData} (F : Fun K "law" "law" sLaw f fd) (B : Bl mg) (R : Fns P w K mg base CC) (C : Cla P w K mg base CC CF CL) (Pr : Prp P w K mg base CC) : FnG P w K mg base 10 f fd ["script"] (spLaw K) := by
  refine F.okG scLaw (fun vs H Q E h => ?_) (fun cdv A outer s H vs Q E none hr h => ?_)
  · obtain ⟨a, ns, rfl, _⟩ := h
    rfl
  · obtain ⟨a, ns, rfl, hs, hn, k⟩ := h
    obtain ⟨tT, pT, qT⟩ := ps_trials (P := P) (w := w) (K := K) (mg := mg) (base := base) (f := f) (cdv := cdv) (A := A) (outer := outer) (s := s) (H0 := H) (E := E) R B C.it hr none
    obtain ⟨tE, pE, qE⟩ := ps_end (P := P) (w := w) (K := K) (mg := mg) (base := base) (f := f) (cdv := cdv) (A := A) (outer := outer) (s := s) (H0 := H) (E := E) C Pr B hr
    refine ⟨_, pss_cons (ps_for PassesOwn.never rfl (pi_range1 (by rfl) (B "range" (by decide)) (pa_cons (pe_callB (call_max2 rfl) (by rfl) (B "max" (by decide)) (by decide +kernel) (pa_cons pe_int (pa_cons (pe_callB (call_min2 rfl) (by rfl) (B "min" (by decide)) (by decide +kernel) (pa_cons pe_int (pa_cons (pe_callB call_len_seq (by rfl) (B "len" (by decide)) (by decide +kernel) (pa_cons (pv 0) pa_nil)) pa_nil))) pa_nil))) pa_nil)) (pg_name (i := 1) scLaw.nd rfl (Or.inl rfl)) (pss_cons (ps_set (i := 2) scLaw.nd rfl (Or.inl rfl) (pe_call (E := E0) R.oC (hr.mono (by decide)) rfl R.gC R.kC R.bC .nil pass0 (pa_cons (pv 0) (pa_cons (pv 1) pa_nil))))
      (pss_one (ps_for PassesOwn.never rfl (pi_range1 (by rfl) (B "range" (by decide)) (pa_cons pe_int pa_nil)) (pg_name (i := 3) scLaw.nd rfl (Or.inl rfl)) (pss_cons (ps_asg (pe_call (E := E0) R.oA (hr.mono (by decide)) rfl R.gA R.kA R.bA .nil pass0 (pa_cons (pv 2) (pa_cons pe_int (pa_cons (pe_call (E := E0) R.oY (hr.mono (by decide)) rfl R.gY R.kY R.bY .nil pass0 (pa_cons (pv 2) (pa_cons pe_int pa_nil))) pa_nil)))) (pg_tup rfl (pgs_cons (pg_name (i := 4) scLaw.nd rfl (Or.inl rfl)) (pgs_cons (pg_name (i := 5) scLaw.nd rfl (Or.inl rfl)) pgs_nil))))
      (pss_one pT)))))) (pss_one pE), ?_⟩
    refine ⟨_, rfl, a, _, rfl, .inl hs, ?_⟩
    rw [List.length_map]
    refine ⟨_, _, rfl, ?_⟩
    refine ⟨_, _, rfl, ?_⟩
    refine ⟨_, rfl, ?_, ?_, ?_⟩
    · (repeat' split) <;> omega
    · (repeat' split) <;> omega
    refine for_range (lo := 0) (n := _) (fun i σ H' => ∃ (y1 y2 y3 y4 y5 y6 y7 y8 y9 y10 y11 y12 y13 y14 y15 y16 y17 : Option V), σ = [some (.ref a), y1, y2, y3, y4, y5, y6, y7, y8, y9, y10, y11, y12, y13, y14, y15, y16, y17] ∧ Same H H')
      ⟨_, _, _, _, _, _, _, _, _, _, _, _, _, _, _, _, _, rfl, Same.refl H⟩ (fun i σ H1 hi hI => ?_) (fun σ H1 hI => ?_)
    · obtain ⟨y1, y2, y3, y4, y5, y6, y7, y8, y9, y10, y11, y12, y13, y14, y15, y16, y17, rfl, s1⟩ := hI
      have i4 : i ≤ 1000 := by
        (repeat' split at hi) <;> omega
      dsimp only [gName, List.set, tSeq]
      refine ⟨_, rfl, _, rfl, a, ns, i, by simp, s1.seq hs, i4, fun c H2 nc c2 s2 => ?_⟩
      dsimp only [gName, List.set]
      refine ⟨_, rfl, by decide, by decide, ?_⟩
      refine for_range (lo := 0) (n := 3) (fun j σ H' => ∃ (y3 y4 y5 y6 y7 y8 y9 y10 y11 y12 y13 y14 y15 y16 y17 : Option V), σ = [some (.ref a), some (.int (0 + (i : Nat))), some (.ref c), y3, y4, y5, y6, y7, y8, y9, y10, y11, y12, y13, y14, y15, y16, y17] ∧ Bt c H2 H' ∧ CR H' c (30000 * j))
        ⟨_, _, _, _, _, _, _, _, _, _, _, _, _, _, _, rfl, Bt.refl c H2, c2⟩ (fun j σ H3 hj hJ => ?_) (fun σ H3 hJ => ?_)
      · obtain ⟨y3, y4, y5, y6, y7, y8, y9, y10, y11, y12, y13, y14, y15, y16, y17, rfl, b3, c3⟩ := hJ
        dsimp only [gName, List.set, tSeq]
        refine ⟨_, rfl, _, rfl, c, 3, _, rfl, by decide, c3, by omega, fun ya H4 ys nya c4 b4 hys yl yn => ?_⟩
        have yne : ys ≠ [] := fun z => by rw [z] at yl; cases yl
        refine ⟨c, ya, 40, _, ys, rfl, by decide, c4, by omega, hys, yne, by omega, fun t L G H5 ls xs fs nL nG LG ht hL hd hG c5 b5 ll okl okf => ?_⟩
        have cL := c4.fresh nL
        have cG := c4.fresh nG
        refine ⟨t, _, rfl, .inl (.inl ht), rfl, _, _, rfl, _, _, rfl, rfl, ?_⟩
        dsimp only [gName, List.set]
        refine qT _ H5 c L G _ xs (ls.map lpD) fs _ _ _ _ _ _ _ _ _ _ _ _ _ _ _ c5 (by omega) cL cG hL hG (lps_tk (hide_tk c5) hd) (lps_items okl yn ll (by decide)) ?_ fun H6 z6 z7 z8 z9 z10 z11 z12 z13 z14 z15 z16 z17 b6 c6 => ?_
        · have := okfs_items (n := ls.length) okf (by omega)
          exact ⟨Nat.le_trans this.ln ll, this.tm, this.lay, this.dp, this.ne, this.wt⟩
        · exact ⟨_, _, _, _, _, _, _, _, _, _, _, _, _, _, _, rfl, ((b3.trans b4).trans b5).trans b6, c6.mono (by omega)⟩
      · obtain ⟨y3, y4, y5, y6, y7, y8, y9, y10, y11, y12, y13, y14, y15, y16, y17, rfl, b3, c3⟩ := hJ
        refine ⟨_, _, _, _, _, _, _, _, _, _, _, _, _, _, _, _, _, rfl, fun b o e => b3 b o (ne_of_none (s1 _ _ e) nc) (s2 _ _ (s1 _ _ e))⟩
    · obtain ⟨y1, y2, y3, y4, y5, y6, y7, y8, y9, y10, y11, y12, y13, y14, y15, y16, y17, rfl, s1⟩ := hI
      exact qE _ _ H1 k
end
end K1
namespace K1
open PySem PySem.Spec PyProof.Rows L2 L2H LK MXb MXd MXe MXf MXg MXi MXk
/-- the facts of an error class that are reckoned at once -/
def chkE (K : PySem.W.Frag) (fI C : Addr) : Bool :=
  decide (PySem.W.findIn K (.ref C) "__setattr__" = some (some (.builtin "object.__setattr__"))) && (decide (PySem.W.subIn K (.ref C) (.type "BaseException") = some true) && (decide (PySem.W.typeIn K (.ref C) = some (.type "type")) &&
  (PySem.W.keepIn K (.ref C) && (decide (PySem.W.findIn K (.ref C) "__init__" = some (some (.ref fI))) && (decide (PySem.W.typeIn K (.ref fI) = some (.type "function")) && (decide (PySem.W.findIn K (.ref C) "value" = some none) &&
  (decide (PySem.W.findIn K (.ref C) "__getattribute__" = some (some (.builtin "BaseException.__getattribute__"))) && (decide (PySem.W.findIn K (.ref C) "__getattr__" = some none) && (PySem.W.hasDictIn K C &&
  (decide (PySem.W.findIn K (.ref C) "__class__" = some (some (.builtin "object.__class__"))) && (decide (PySem.W.specialIn K (.builtin "object.__class__") "__get__" = some (some (.builtin "getset_descriptor.__get__"))) &&
  (decide (PySem.W.takesIn K (.builtin "object.__class__") = some true) && decide (PySem.W.mroIn K C (.type "object") = some true)))))))))))))
/-- the class object of an error -/
def ClsE (K : PySem.W.Frag) (C : Addr) : Prop := ∃ nm q N bs bm sn sub ab col dd k0 k1 k2 k3 k5, K.lookup C = some (excClassObj nm q C N bs bm true sn sub ab col dd k0 k1 k2 k3 k5 "ValueError.__new__") ∧ PySem.HandSPX.refsVE bm = true
theorem clse_mk {K : PySem.W.Frag} {C : Addr} {nm q : Str} {N : Addr} {bs bm : List Value} {sn : List Str} {sub : List Value} {ab : Bool} {col : Option Bool} {dd : Option Addr} {k0 k1 k2 k3 k5 : Option Value}
    (e : K.lookup C = some (excClassObj nm q C N bs bm true sn sub ab col dd k0 k1 k2 k3 k5 "ValueError.__new__")) (r : PySem.HandSPX.refsVE bm = true) : ClsE K C := ⟨_, _, _, _, _, _, _, _, _, _, _, _, _, _, _, e, r⟩
theorem xce_of {K : PySem.W.Frag} {mg : Str → Option Value} {fI C : Addr} {nm : Str} (g : mg nm = some (.ref C)) (x : ClsE K C) (c : chkE K fI C = true) : XC K mg fI C nm "value" := by
  unfold chkE at c
  simp only [Bool.and_eq_true, decide_eq_true_eq] at c
  obtain ⟨h1, h2, h3, h4, h5, h6, h7, h8, h9, h10, h11, h12, h13, h14⟩ := c
  exact ⟨g, ⟨x, h1, h2, h3, h4⟩, h5, h6, h7, ⟨h8, h9, h2, h10⟩, ⟨h8, h9, h2, h10, h11, h12, h13, h14⟩⟩
/-- the facts between the classes -/
def chkB (K : PySem.W.Frag) (CR CF CL CP : Addr) : Bool :=
  decide (PySem.W.exmOne K (.ref CF) (.ref CF) = some true) && (decide (PySem.W.exmOne K (.ref CL) (.ref CF) = some false) && (decide (PySem.W.exmOne K (.ref CL) (.ref CL) = some true) && (decide (PySem.W.kitOne K (.ref CF) (.ref CR) = some true) &&
  (decide (PySem.W.kitOne K (.ref CL) (.ref CR) = some true) && (decide (PySem.W.kitAny K (.ref CF) [.ref CL, .ref CP] = some false) && decide (PySem.W.kitAny K (.ref CL) [.ref CF, .ref CP] = some false))))))
/-- the facts of the class -/
def chkC (K : PySem.W.Frag) (C : Addr) : Bool :=
  PySem.W.plainGet K C Str.empty && (PySem.W.hasDictIn K C && (PySem.W.plainOver K C && (decide (PySem.W.findIn K (.ref C) "__setattr__" = some (some (.builtin "object.__setattr__"))) &&
  (decide (PySem.W.findIn K (.ref C) "_loops" = some none) && (decide (PySem.W.findIn K (.ref C) "_fast" = some none) && (decide (PySem.W.findIn K (.ref C) "__class__" = some (some (.builtin "object.__class__"))) &&
  (decide (PySem.W.specialIn K (.builtin "object.__class__") "__get__" = some (some (.builtin "getset_descriptor.__get__"))) && (decide (PySem.W.takesIn K (.builtin "object.__class__") = some true) && (decide (PySem.W.mroIn K C (.type "object") = some true) &&
  (decide (PySem.W.kitOne K (.ref C) (.ref C) = some true) && decide (PySem.W.kitOne K (.ref C) (.type "tuple") = some false)))))))))))
theorem chkC_of {K : PySem.W.Frag} {C : Addr} (h : chkC K C = true) : Cls K C ∧ NoAttr K C "_loops" ∧ NoAttr K C "_fast" ∧ InsTy K C := by
  unfold chkC at h
  simp only [Bool.and_eq_true, decide_eq_true_eq] at h
  obtain ⟨h1, h2, h3, h4, h5, h6, h7, h8, h9, h10, h11, h12⟩ := h
  have c : Cls K C := ⟨h1, h2, h3, h4⟩
  exact ⟨c, h5, h6, ⟨fun e => .base (.ins e c h7 h8 h9 h10), h11, h12⟩⟩
/-- a property's facts -/
def chkP (K : PySem.W.Frag) (p : Addr) : Bool := decide (PySem.W.specialIn K (.ref p) "__get__" = some (some (.builtin "property.__get__"))) && decide (PySem.W.takesIn K (.ref p) = some true)
theorem prp_of {K : PySem.W.Frag} {C p g : Addr} {f : Str} {rest : List Value} (a : PySem.W.findIn K (.ref C) f = some (some (.ref p))) (r : PySem.W.recIn K p "property" = some (.ref g :: rest)) (h : chkP K p = true) : PropOf K C f p g := by
  unfold chkP at h
  simp only [Bool.and_eq_true, decide_eq_true_eq] at h
  exact ⟨a, h.1, h.2, _, r⟩
def chkN (K : PySem.W.Frag) : Bool := blts.all fun n => decide (PySem.W.nsIn K mainGlobals n = some none)

theorem all_mk {P : Program} {w : World} {K : PySem.W.Frag} {h : Heap} {mg : Str → Option Value} {fa CR CF CL CP CC p_gl p_gf p_gt f_int f_num f_thr f_wro f_par f_loo f_ckl f_ckf f_cre f_ply f_mat f_yar f_any f_kid f_isy f_spo f_lot f_lps f_odd f_mad f_due f_tol f_ben f_law f_ini f_clo f_len f_equ f_gl f_gf f_gt : Addr} {tLT : Tok} {r_gl r_gf r_gt : List Value} (X : K.In h) (G : h.Ns mainGlobals mg) (hfa : mg "law" = some (.ref fa))
    {od_int an_int : Option Addr} {sl_int : Array (Option Value)} {oc_int kV_int dc_int pm_int cd_int ct_int : Value}
    {od_num an_num : Option Addr} {sl_num : Array (Option Value)} {oc_num kV_num dc_num pm_num cd_num ct_num : Value}
    {od_thr an_thr : Option Addr} {sl_thr : Array (Option Value)} {oc_thr kV_thr dc_thr pm_thr cd_thr ct_thr : Value}
    {od_wro an_wro : Option Addr} {sl_wro : Array (Option Value)} {oc_wro kV_wro dc_wro pm_wro cd_wro ct_wro : Value}
    {od_par an_par : Option Addr} {sl_par : Array (Option Value)} {oc_par kV_par dc_par pm_par cd_par ct_par : Value}
    {od_loo an_loo : Option Addr} {sl_loo : Array (Option Value)} {oc_loo kV_loo dc_loo pm_loo cd_loo ct_loo : Value}
    {od_ckl an_ckl : Option Addr} {sl_ckl : Array (Option Value)} {oc_ckl kV_ckl dc_ckl pm_ckl cd_ckl ct_ckl : Value}
    {od_ckf an_ckf : Option Addr} {sl_ckf : Array (Option Value)} {oc_ckf kV_ckf dc_ckf pm_ckf cd_ckf ct_ckf : Value}
    {od_cre an_cre : Option Addr} {sl_cre : Array (Option Value)} {oc_cre kV_cre dc_cre pm_cre cd_cre ct_cre : Value}
    {od_ply an_ply : Option Addr} {sl_ply : Array (Option Value)} {oc_ply kV_ply dc_ply pm_ply cd_ply ct_ply : Value}
    {od_mat an_mat : Option Addr} {sl_mat : Array (Option Value)} {oc_mat kV_mat dc_mat pm_mat cd_mat ct_mat : Value}
    {od_yar an_yar : Option Addr} {sl_yar : Array (Option Value)} {oc_yar kV_yar dc_yar pm_yar cd_yar ct_yar : Value}
    {od_any an_any : Option Addr} {sl_any : Array (Option Value)} {oc_any kV_any dc_any pm_any cd_any ct_any : Value}
    {od_kid an_kid : Option Addr} {sl_kid : Array (Option Value)} {oc_kid kV_kid dc_kid pm_kid cd_kid ct_kid : Value}
    {od_isy an_isy : Option Addr} {sl_isy : Array (Option Value)} {oc_isy kV_isy dc_isy pm_isy cd_isy ct_isy : Value}
    {od_spo an_spo : Option Addr} {sl_spo : Array (Option Value)} {oc_spo kV_spo dc_spo pm_spo cd_spo ct_spo : Value}
    {od_lot an_lot : Option Addr} {sl_lot : Array (Option Value)} {oc_lot kV_lot dc_lot pm_lot cd_lot ct_lot : Value}
    {od_lps an_lps : Option Addr} {sl_lps : Array (Option Value)} {oc_lps kV_lps dc_lps pm_lps cd_lps ct_lps : Value}
    {od_odd an_odd : Option Addr} {sl_odd : Array (Option Value)} {oc_odd kV_odd dc_odd pm_odd cd_odd ct_odd : Value}
    {od_mad an_mad : Option Addr} {sl_mad : Array (Option Value)} {oc_mad kV_mad dc_mad pm_mad cd_mad ct_mad : Value}
    {od_due an_due : Option Addr} {sl_due : Array (Option Value)} {oc_due kV_due dc_due pm_due cd_due ct_due : Value}
    {od_tol an_tol : Option Addr} {sl_tol : Array (Option Value)} {oc_tol kV_tol dc_tol pm_tol cd_tol ct_tol : Value}
    {od_ben an_ben : Option Addr} {sl_ben : Array (Option Value)} {oc_ben kV_ben dc_ben pm_ben cd_ben ct_ben : Value}
    {od_law an_law : Option Addr} {sl_law : Array (Option Value)} {oc_law kV_law dc_law pm_law cd_law ct_law : Value}
    {od_ini an_ini : Option Addr} {sl_ini : Array (Option Value)} {oc_ini kV_ini dc_ini pm_ini cd_ini ct_ini : Value}
    {od_clo an_clo : Option Addr} {sl_clo : Array (Option Value)} {oc_clo kV_clo dc_clo pm_clo cd_clo ct_clo : Value}
    {od_len an_len : Option Addr} {sl_len : Array (Option Value)} {oc_len kV_len dc_len pm_len cd_len ct_len : Value}
    {od_equ an_equ : Option Addr} {sl_equ : Array (Option Value)} {oc_equ kV_equ dc_equ pm_equ cd_equ ct_equ : Value}
    {od_gl an_gl : Option Addr} {sl_gl : Array (Option Value)} {oc_gl kV_gl dc_gl pm_gl cd_gl ct_gl : Value}
    {od_gf an_gf : Option Addr} {sl_gf : Array (Option Value)} {oc_gf kV_gf dc_gf pm_gf cd_gf ct_gf : Value}
    {od_gt an_gt : Option Addr} {sl_gt : Array (Option Value)} {oc_gt kV_gt dc_gt pm_gt cd_gt ct_gt : Value}
    (aR : PySem.W.nsIn K mainGlobals "RunError" = some (some (.ref CR)))
    (aF : PySem.W.nsIn K mainGlobals "InvalidFast" = some (some (.ref CF)))
    (xF : ClsE K CF)
    (aL : PySem.W.nsIn K mainGlobals "InvalidLoops" = some (some (.ref CL)))
    (xL : ClsE K CL)
    (aP : PySem.W.nsIn K mainGlobals "InvalidLoop" = some (some (.ref CP)))
    (aC : PySem.W.nsIn K mainGlobals "Cloth" = some (some (.ref CC)))
    (mC : PySem.W.makesIn K CC = true)
    (kC : PySem.W.keepIn K (.ref CC) = true)
    (aT : PySem.W.nsIn K mainGlobals "LONGEST_THREAD" = some (some (.int 8 tLT)))
    (n_int : PySem.W.nsIn K mainGlobals "is_integer" = some (some (.ref f_int)))
    (n_num : PySem.W.nsIn K mainGlobals "is_number" = some (some (.ref f_num)))
    (n_thr : PySem.W.nsIn K mainGlobals "is_thread" = some (some (.ref f_thr)))
    (n_wro : PySem.W.nsIn K mainGlobals "wrong_number" = some (some (.ref f_wro)))
    (n_par : PySem.W.nsIn K mainGlobals "is_parents" = some (some (.ref f_par)))
    (n_loo : PySem.W.nsIn K mainGlobals "is_loop" = some (some (.ref f_loo)))
    (n_ckl : PySem.W.nsIn K mainGlobals "check_loops" = some (some (.ref f_ckl)))
    (n_ckf : PySem.W.nsIn K mainGlobals "check_fast" = some (some (.ref f_ckf)))
    (n_cre : PySem.W.nsIn K mainGlobals "_law_creel" = some (some (.ref f_cre)))
    (n_ply : PySem.W.nsIn K mainGlobals "_law_ply" = some (some (.ref f_ply)))
    (n_mat : PySem.W.nsIn K mainGlobals "_law_matched" = some (some (.ref f_mat)))
    (n_yar : PySem.W.nsIn K mainGlobals "_law_yarns" = some (some (.ref f_yar)))
    (n_any : PySem.W.nsIn K mainGlobals "_law_any_cloth" = some (some (.ref f_any)))
    (n_kid : PySem.W.nsIn K mainGlobals "_law_kids" = some (some (.ref f_kid)))
    (n_isy : PySem.W.nsIn K mainGlobals "_law_is_yarn" = some (some (.ref f_isy)))
    (n_spo : PySem.W.nsIn K mainGlobals "_law_is_spot" = some (some (.ref f_spo)))
    (n_lot : PySem.W.nsIn K mainGlobals "_law_lot_fault" = some (some (.ref f_lot)))
    (n_lps : PySem.W.nsIn K mainGlobals "_law_loops_fault" = some (some (.ref f_lps)))
    (n_odd : PySem.W.nsIn K mainGlobals "_law_odd_thing" = some (some (.ref f_odd)))
    (n_mad : PySem.W.nsIn K mainGlobals "_law_made" = some (some (.ref f_mad)))
    (n_due : PySem.W.nsIn K mainGlobals "_law_due" = some (some (.ref f_due)))
    (n_tol : PySem.W.nsIn K mainGlobals "_law_told_right" = some (some (.ref f_tol)))
    (n_ben : PySem.W.nsIn K mainGlobals "_law_bent_loops" = some (some (.ref f_ben)))
    (n_law : PySem.W.nsIn K mainGlobals "law" = some (some (.ref f_law)))
    (n_ini : PySem.W.findIn K (.ref CR) "__init__" = some (some (.ref f_ini)))
    (i_ini : PySem.W.isFn K (.ref f_ini) = true)
    (n_clo : PySem.W.findIn K (.ref CC) "__init__" = some (some (.ref f_clo)))
    (i_clo : PySem.W.isFn K (.ref f_clo) = true)
    (n_len : PySem.W.findIn K (.ref CC) "__len__" = some (some (.ref f_len)))
    (i_len : PySem.W.isFn K (.ref f_len) = true)
    (n_equ : PySem.W.findIn K (.ref CC) "__eq__" = some (some (.ref f_equ)))
    (i_equ : PySem.W.isFn K (.ref f_equ) = true)
    (n_gl : PySem.W.findIn K (.ref CC) "loops" = some (some (.ref p_gl)))
    (q_gl : PySem.W.recIn K p_gl "property" = some (.ref f_gl :: r_gl))
    (n_gf : PySem.W.findIn K (.ref CC) "fast" = some (some (.ref p_gf)))
    (q_gf : PySem.W.recIn K p_gf "property" = some (.ref f_gf :: r_gf))
    (n_gt : PySem.W.findIn K (.ref CC) "threads" = some (some (.ref p_gt)))
    (q_gt : PySem.W.recIn K p_gt "property" = some (.ref f_gt :: r_gt))
    (l_int : K.lookup f_int = some ⟨oc_int, od_int, .func (PySem.W.fnOf "is_integer" "is_integer" (defArgs sIsInt) (defBody sIsInt) (defScope sIsInt) .none kV_int dc_int pm_int an_int cd_int ct_int), sl_int⟩)
    (c_int : PySem.W.codeIn K cd_int "is_integer" = true)
    (k_int : PySem.W.keepIn K (.ref f_int) = true)
    (l_num : K.lookup f_num = some ⟨oc_num, od_num, .func (PySem.W.fnOf "is_number" "is_number" (defArgs sIsNum) (defBody sIsNum) (defScope sIsNum) .none kV_num dc_num pm_num an_num cd_num ct_num), sl_num⟩)
    (c_num : PySem.W.codeIn K cd_num "is_number" = true)
    (k_num : PySem.W.keepIn K (.ref f_num) = true)
    (l_thr : K.lookup f_thr = some ⟨oc_thr, od_thr, .func (PySem.W.fnOf "is_thread" "is_thread" (defArgs sIsThr) (defBody sIsThr) (defScope sIsThr) .none kV_thr dc_thr pm_thr an_thr cd_thr ct_thr), sl_thr⟩)
    (c_thr : PySem.W.codeIn K cd_thr "is_thread" = true)
    (k_thr : PySem.W.keepIn K (.ref f_thr) = true)
    (l_wro : K.lookup f_wro = some ⟨oc_wro, od_wro, .func (PySem.W.fnOf "wrong_number" "wrong_number" (defArgs sWrong) (defBody sWrong) (defScope sWrong) .none kV_wro dc_wro pm_wro an_wro cd_wro ct_wro), sl_wro⟩)
    (c_wro : PySem.W.codeIn K cd_wro "wrong_number" = true)
    (k_wro : PySem.W.keepIn K (.ref f_wro) = true)
    (l_par : K.lookup f_par = some ⟨oc_par, od_par, .func (PySem.W.fnOf "is_parents" "is_parents" (defArgs sPar) (defBody sPar) (defScope sPar) .none kV_par dc_par pm_par an_par cd_par ct_par), sl_par⟩)
    (c_par : PySem.W.codeIn K cd_par "is_parents" = true)
    (k_par : PySem.W.keepIn K (.ref f_par) = true)
    (l_loo : K.lookup f_loo = some ⟨oc_loo, od_loo, .func (PySem.W.fnOf "is_loop" "is_loop" (defArgs sIsLoop) (defBody sIsLoop) (defScope sIsLoop) .none kV_loo dc_loo pm_loo an_loo cd_loo ct_loo), sl_loo⟩)
    (c_loo : PySem.W.codeIn K cd_loo "is_loop" = true)
    (k_loo : PySem.W.keepIn K (.ref f_loo) = true)
    (l_ckl : K.lookup f_ckl = some ⟨oc_ckl, od_ckl, .func (PySem.W.fnOf "check_loops" "check_loops" (defArgs sChkL) (defBody sChkL) (defScope sChkL) .none kV_ckl dc_ckl pm_ckl an_ckl cd_ckl ct_ckl), sl_ckl⟩)
    (c_ckl : PySem.W.codeIn K cd_ckl "check_loops" = true)
    (k_ckl : PySem.W.keepIn K (.ref f_ckl) = true)
    (l_ckf : K.lookup f_ckf = some ⟨oc_ckf, od_ckf, .func (PySem.W.fnOf "check_fast" "check_fast" (defArgs sChkF) (defBody sChkF) (defScope sChkF) .none kV_ckf dc_ckf pm_ckf an_ckf cd_ckf ct_ckf), sl_ckf⟩)
    (c_ckf : PySem.W.codeIn K cd_ckf "check_fast" = true)
    (k_ckf : PySem.W.keepIn K (.ref f_ckf) = true)
    (l_cre : K.lookup f_cre = some ⟨oc_cre, od_cre, .func (PySem.W.fnOf "_law_creel" "_law_creel" (defArgs sCreel) (defBody sCreel) (defScope sCreel) .none kV_cre dc_cre pm_cre an_cre cd_cre ct_cre), sl_cre⟩)
    (c_cre : PySem.W.codeIn K cd_cre "_law_creel" = true)
    (k_cre : PySem.W.keepIn K (.ref f_cre) = true)
    (l_ply : K.lookup f_ply = some ⟨oc_ply, od_ply, .func (PySem.W.fnOf "_law_ply" "_law_ply" (defArgs sPly) (defBody sPly) (defScope sPly) .none kV_ply dc_ply pm_ply an_ply cd_ply ct_ply), sl_ply⟩)
    (c_ply : PySem.W.codeIn K cd_ply "_law_ply" = true)
    (k_ply : PySem.W.keepIn K (.ref f_ply) = true)
    (l_mat : K.lookup f_mat = some ⟨oc_mat, od_mat, .func (PySem.W.fnOf "_law_matched" "_law_matched" (defArgs sMat) (defBody sMat) (defScope sMat) .none kV_mat dc_mat pm_mat an_mat cd_mat ct_mat), sl_mat⟩)
    (c_mat : PySem.W.codeIn K cd_mat "_law_matched" = true)
    (k_mat : PySem.W.keepIn K (.ref f_mat) = true)
    (l_yar : K.lookup f_yar = some ⟨oc_yar, od_yar, .func (PySem.W.fnOf "_law_yarns" "_law_yarns" (defArgs sYarns) (defBody sYarns) (defScope sYarns) .none kV_yar dc_yar pm_yar an_yar cd_yar ct_yar), sl_yar⟩)
    (c_yar : PySem.W.codeIn K cd_yar "_law_yarns" = true)
    (k_yar : PySem.W.keepIn K (.ref f_yar) = true)
    (l_any : K.lookup f_any = some ⟨oc_any, od_any, .func (PySem.W.fnOf "_law_any_cloth" "_law_any_cloth" (defArgs sAny) (defBody sAny) (defScope sAny) .none kV_any dc_any pm_any an_any cd_any ct_any), sl_any⟩)
    (c_any : PySem.W.codeIn K cd_any "_law_any_cloth" = true)
    (k_any : PySem.W.keepIn K (.ref f_any) = true)
    (l_kid : K.lookup f_kid = some ⟨oc_kid, od_kid, .func (PySem.W.fnOf "_law_kids" "_law_kids" (defArgs sKids) (defBody sKids) (defScope sKids) .none kV_kid dc_kid pm_kid an_kid cd_kid ct_kid), sl_kid⟩)
    (c_kid : PySem.W.codeIn K cd_kid "_law_kids" = true)
    (k_kid : PySem.W.keepIn K (.ref f_kid) = true)
    (l_isy : K.lookup f_isy = some ⟨oc_isy, od_isy, .func (PySem.W.fnOf "_law_is_yarn" "_law_is_yarn" (defArgs sYarn) (defBody sYarn) (defScope sYarn) .none kV_isy dc_isy pm_isy an_isy cd_isy ct_isy), sl_isy⟩)
    (c_isy : PySem.W.codeIn K cd_isy "_law_is_yarn" = true)
    (k_isy : PySem.W.keepIn K (.ref f_isy) = true)
    (l_spo : K.lookup f_spo = some ⟨oc_spo, od_spo, .func (PySem.W.fnOf "_law_is_spot" "_law_is_spot" (defArgs sSpot) (defBody sSpot) (defScope sSpot) .none kV_spo dc_spo pm_spo an_spo cd_spo ct_spo), sl_spo⟩)
    (c_spo : PySem.W.codeIn K cd_spo "_law_is_spot" = true)
    (k_spo : PySem.W.keepIn K (.ref f_spo) = true)
    (l_lot : K.lookup f_lot = some ⟨oc_lot, od_lot, .func (PySem.W.fnOf "_law_lot_fault" "_law_lot_fault" (defArgs sLot) (defBody sLot) (defScope sLot) .none kV_lot dc_lot pm_lot an_lot cd_lot ct_lot), sl_lot⟩)
    (c_lot : PySem.W.codeIn K cd_lot "_law_lot_fault" = true)
    (k_lot : PySem.W.keepIn K (.ref f_lot) = true)
    (l_lps : K.lookup f_lps = some ⟨oc_lps, od_lps, .func (PySem.W.fnOf "_law_loops_fault" "_law_loops_fault" (defArgs sLps) (defBody sLps) (defScope sLps) .none kV_lps dc_lps pm_lps an_lps cd_lps ct_lps), sl_lps⟩)
    (c_lps : PySem.W.codeIn K cd_lps "_law_loops_fault" = true)
    (k_lps : PySem.W.keepIn K (.ref f_lps) = true)
    (l_odd : K.lookup f_odd = some ⟨oc_odd, od_odd, .func (PySem.W.fnOf "_law_odd_thing" "_law_odd_thing" (defArgs sOdd) (defBody sOdd) (defScope sOdd) .none kV_odd dc_odd pm_odd an_odd cd_odd ct_odd), sl_odd⟩)
    (c_odd : PySem.W.codeIn K cd_odd "_law_odd_thing" = true)
    (k_odd : PySem.W.keepIn K (.ref f_odd) = true)
    (l_mad : K.lookup f_mad = some ⟨oc_mad, od_mad, .func (PySem.W.fnOf "_law_made" "_law_made" (defArgs sMade) (defBody sMade) (defScope sMade) .none kV_mad dc_mad pm_mad an_mad cd_mad ct_mad), sl_mad⟩)
    (c_mad : PySem.W.codeIn K cd_mad "_law_made" = true)
    (k_mad : PySem.W.keepIn K (.ref f_mad) = true)
    (l_due : K.lookup f_due = some ⟨oc_due, od_due, .func (PySem.W.fnOf "_law_due" "_law_due" (defArgs sDue) (defBody sDue) (defScope sDue) .none kV_due dc_due pm_due an_due cd_due ct_due), sl_due⟩)
    (c_due : PySem.W.codeIn K cd_due "_law_due" = true)
    (k_due : PySem.W.keepIn K (.ref f_due) = true)
    (l_tol : K.lookup f_tol = some ⟨oc_tol, od_tol, .func (PySem.W.fnOf "_law_told_right" "_law_told_right" (defArgs sTold) (defBody sTold) (defScope sTold) .none kV_tol dc_tol pm_tol an_tol cd_tol ct_tol), sl_tol⟩)
    (c_tol : PySem.W.codeIn K cd_tol "_law_told_right" = true)
    (k_tol : PySem.W.keepIn K (.ref f_tol) = true)
    (l_ben : K.lookup f_ben = some ⟨oc_ben, od_ben, .func (PySem.W.fnOf "_law_bent_loops" "_law_bent_loops" (defArgs sBent) (defBody sBent) (defScope sBent) .none kV_ben dc_ben pm_ben an_ben cd_ben ct_ben), sl_ben⟩)
    (c_ben : PySem.W.codeIn K cd_ben "_law_bent_loops" = true)
    (k_ben : PySem.W.keepIn K (.ref f_ben) = true)
    (l_law : K.lookup f_law = some ⟨oc_law, od_law, .func (PySem.W.fnOf "law" "law" (defArgs sLaw) (defBody sLaw) (defScope sLaw) .none kV_law dc_law pm_law an_law cd_law ct_law), sl_law⟩)
    (c_law : PySem.W.codeIn K cd_law "law" = true)
    (k_law : PySem.W.keepIn K (.ref f_law) = true)
    (l_ini : K.lookup f_ini = some ⟨oc_ini, od_ini, .func (PySem.W.fnOf "__init__" "RunError.__init__" (defArgs sInit) (defBody sInit) (defScope sInit) .none kV_ini dc_ini pm_ini an_ini cd_ini ct_ini), sl_ini⟩)
    (c_ini : PySem.W.codeIn K cd_ini "RunError.__init__" = true)
    (k_ini : PySem.W.keepIn K (.ref f_ini) = true)
    (l_clo : K.lookup f_clo = some ⟨oc_clo, od_clo, .func (PySem.W.fnOf "__init__" "Cloth.__init__" (defArgs sClo) (defBody sClo) (defScope sClo) .none kV_clo dc_clo pm_clo an_clo cd_clo ct_clo), sl_clo⟩)
    (c_clo : PySem.W.codeIn K cd_clo "Cloth.__init__" = true)
    (k_clo : PySem.W.keepIn K (.ref f_clo) = true)
    (l_len : K.lookup f_len = some ⟨oc_len, od_len, .func (PySem.W.fnOf "__len__" "Cloth.__len__" (defArgs sLn) (defBody sLn) (defScope sLn) .none kV_len dc_len pm_len an_len cd_len ct_len), sl_len⟩)
    (c_len : PySem.W.codeIn K cd_len "Cloth.__len__" = true)
    (k_len : PySem.W.keepIn K (.ref f_len) = true)
    (l_equ : K.lookup f_equ = some ⟨oc_equ, od_equ, .func (PySem.W.fnOf "__eq__" "Cloth.__eq__" (defArgs sEq) (defBody sEq) (defScope sEq) .none kV_equ dc_equ pm_equ an_equ cd_equ ct_equ), sl_equ⟩)
    (c_equ : PySem.W.codeIn K cd_equ "Cloth.__eq__" = true)
    (k_equ : PySem.W.keepIn K (.ref f_equ) = true)
    (l_gl : K.lookup f_gl = some ⟨oc_gl, od_gl, .func (PySem.W.fnOf "loops" "Cloth.loops" (defArgs sPl) (defBody sPl) (defScope sPl) .none kV_gl dc_gl pm_gl an_gl cd_gl ct_gl), sl_gl⟩)
    (c_gl : PySem.W.codeIn K cd_gl "Cloth.loops" = true)
    (k_gl : PySem.W.keepIn K (.ref f_gl) = true)
    (l_gf : K.lookup f_gf = some ⟨oc_gf, od_gf, .func (PySem.W.fnOf "fast" "Cloth.fast" (defArgs sPf) (defBody sPf) (defScope sPf) .none kV_gf dc_gf pm_gf an_gf cd_gf ct_gf), sl_gf⟩)
    (c_gf : PySem.W.codeIn K cd_gf "Cloth.fast" = true)
    (k_gf : PySem.W.keepIn K (.ref f_gf) = true)
    (l_gt : K.lookup f_gt = some ⟨oc_gt, od_gt, .func (PySem.W.fnOf "threads" "Cloth.threads" (defArgs sThr) (defBody sThr) (defScope sThr) .none kV_gt dc_gt pm_gt an_gt cd_gt ct_gt), sl_gt⟩)
    (c_gt : PySem.W.codeIn K cd_gt "Cloth.threads" = true)
    (k_gt : PySem.W.keepIn K (.ref f_gt) = true)
    (hF : chkE K f_ini CF = true)
    (hL : chkE K f_ini CL = true)
    (hB : chkB K CR CF CL CP = true)
    (hC : chkC K CC = true)
    (hP : (chkP K p_gl && (chkP K p_gf && chkP K p_gt)) = true)
    (hN : chkN K = true)
    : ∃ fd : FuncData, (∀ (s : Shared) (v : Value), BindsTo s fd ⟨[v], []⟩ [("script", v)]) ∧ ∀ base : Heap, K.In base → base.Ns mainGlobals mg → FnG P w K mg base 10 fa fd ["script"] (spLaw K) := by
  have e := hfa.symm.trans (PySem.W.mg_of X G n_law)
  cases e
  have B : Bl mg := fun n hn => PySem.W.mg_none_of X G (of_decide_eq_true (List.all_eq_true.mp hN n hn))
  have XF := xce_of (PySem.W.mg_of X G aF) xF hF
  have XL' := xce_of (PySem.W.mg_of X G aL) xL hL
  unfold chkB at hB
  simp only [Bool.and_eq_true, decide_eq_true_eq] at hB
  obtain ⟨b1, b2, b3, b4, b5, b6, b7⟩ := hB
  have T : ErK K mg CR CF CL CP := ⟨PySem.W.mg_of X G aR, PySem.W.mg_of X G aP, b1, b2, b3, b4, b5, b6, b7⟩
  obtain ⟨cc, n1, n2, it⟩ := chkC_of hC
  simp only [Bool.and_eq_true] at hP
  obtain ⟨hP1, hP2, hP3⟩ := hP
  have aL' := prp_of n_gl q_gl hP1
  have aF' := prp_of n_gf q_gf hP2
  have aT' := prp_of n_gt q_gt hP3
  have F_int := fun_mk (st := sIsInt) l_int c_int k_int
  have b_int := F_int.binds (ps := ["value"]) fun _ _ _ _ _ _ us hl => match us, hl with | [_], _ => rfl
  have F_num := fun_mk (st := sIsNum) l_num c_num k_num
  have b_num := F_num.binds (ps := ["value", "many"]) fun _ _ _ _ _ _ us hl => match us, hl with | [_, _], _ => rfl
  have F_thr := fun_mk (st := sIsThr) l_thr c_thr k_thr
  have b_thr := F_thr.binds (ps := ["value"]) fun _ _ _ _ _ _ us hl => match us, hl with | [_], _ => rfl
  have F_wro := fun_mk (st := sWrong) l_wro c_wro k_wro
  have b_wro := F_wro.binds (ps := ["numbers", "many"]) fun _ _ _ _ _ _ us hl => match us, hl with | [_, _], _ => rfl
  have F_par := fun_mk (st := sPar) l_par c_par k_par
  have b_par := F_par.binds (ps := ["value", "many"]) fun _ _ _ _ _ _ us hl => match us, hl with | [_, _], _ => rfl
  have F_loo := fun_mk (st := sIsLoop) l_loo c_loo k_loo
  have b_loo := F_loo.binds (ps := ["value", "number"]) fun _ _ _ _ _ _ us hl => match us, hl with | [_, _], _ => rfl
  have F_ckl := fun_mk (st := sChkL) l_ckl c_ckl k_ckl
  have b_ckl := F_ckl.binds (ps := ["loops"]) fun _ _ _ _ _ _ us hl => match us, hl with | [_], _ => rfl
  have F_ckf := fun_mk (st := sChkF) l_ckf c_ckf k_ckf
  have b_ckf := F_ckf.binds (ps := ["fast", "many"]) fun _ _ _ _ _ _ us hl => match us, hl with | [_, _], _ => rfl
  have F_cre := fun_mk (st := sCreel) l_cre c_cre k_cre
  have b_cre := F_cre.binds (ps := ["script", "at"]) fun _ _ _ _ _ _ us hl => match us, hl with | [_, _], _ => rfl
  have F_ply := fun_mk (st := sPly) l_ply c_ply k_ply
  have b_ply := F_ply.binds (ps := ["creel", "span"]) fun _ _ _ _ _ _ us hl => match us, hl with | [_, _], _ => rfl
  have F_mat := fun_mk (st := sMat) l_mat c_mat k_mat
  have b_mat := F_mat.binds (ps := ["found", "due"]) fun _ _ _ _ _ _ us hl => match us, hl with | [_, _], _ => rfl
  have F_yar := fun_mk (st := sYarns) l_yar c_yar k_yar
  have b_yar := F_yar.binds (ps := ["creel", "many"]) fun _ _ _ _ _ _ us hl => match us, hl with | [_, _], _ => rfl
  have F_any := fun_mk (st := sAny) l_any c_any k_any
  have b_any := F_any.binds (ps := ["creel", "most", "yarns"]) fun _ _ _ _ _ _ us hl => match us, hl with | [_, _, _], _ => rfl
  have F_kid := fun_mk (st := sKids) l_kid c_kid k_kid
  have b_kid := F_kid.binds (ps := ["loops_here", "spot"]) fun _ _ _ _ _ _ us hl => match us, hl with | [_, _], _ => rfl
  have F_isy := fun_mk (st := sYarn) l_isy c_isy k_isy
  have b_isy := F_isy.binds (ps := ["thing"]) fun _ _ _ _ _ _ us hl => match us, hl with | [_], _ => rfl
  have F_spo := fun_mk (st := sSpot) l_spo c_spo k_spo
  have b_spo := F_spo.binds (ps := ["count", "thing"]) fun _ _ _ _ _ _ us hl => match us, hl with | [_, _], _ => rfl
  have F_lot := fun_mk (st := sLot) l_lot c_lot k_lot
  have b_lot := F_lot.binds (ps := ["count", "thing"]) fun _ _ _ _ _ _ us hl => match us, hl with | [_, _], _ => rfl
  have F_lps := fun_mk (st := sLps) l_lps c_lps k_lps
  have b_lps := F_lps.binds (ps := ["thing"]) fun _ _ _ _ _ _ us hl => match us, hl with | [_], _ => rfl
  have F_odd := fun_mk (st := sOdd) l_odd c_odd k_odd
  have b_odd := F_odd.binds (ps := ["creel", "count"]) fun _ _ _ _ _ _ us hl => match us, hl with | [_, _], _ => rfl
  have F_mad := fun_mk (st := sMade) l_mad c_mad k_mad
  have b_mad := F_mad.binds (ps := ["way", "loops_here", "fast_here"]) fun _ _ _ _ _ _ us hl => match us, hl with | [_, _, _], _ => rfl
  have F_due := fun_mk (st := sDue) l_due c_due k_due
  have b_due := F_due.binds (ps := ["loops_here", "fast_here"]) fun _ _ _ _ _ _ us hl => match us, hl with | [_, _], _ => rfl
  have F_tol := fun_mk (st := sTold) l_tol c_tol k_tol
  have b_tol := F_tol.binds (ps := ["cloth", "loops_here", "fast_here"]) fun _ _ _ _ _ _ us hl => match us, hl with | [_, _, _], _ => rfl
  have F_ben := fun_mk (st := sBent) l_ben c_ben k_ben
  have b_ben := F_ben.binds (ps := ["creel", "loops_here"]) fun _ _ _ _ _ _ us hl => match us, hl with | [_, _], _ => rfl
  have F_law := fun_mk (st := sLaw) l_law c_law k_law
  have F_ini := fun_mk (st := sInit) l_ini c_ini k_ini
  have b_ini := F_ini.binds (ps := ["self", "value"]) fun _ _ _ _ _ _ us hl => match us, hl with | [_, _], _ => rfl
  have F_clo := fun_mk (st := sClo) l_clo c_clo k_clo
  have b_clo := F_clo.binds (ps := ["self", "loops", "fast"]) fun _ _ _ _ _ _ us hl => match us, hl with | [_, _, _], _ => rfl
  have F_len := fun_mk (st := sLn) l_len c_len k_len
  have b_len := F_len.binds (ps := ["self"]) fun _ _ _ _ _ _ us hl => match us, hl with | [_], _ => rfl
  have F_equ := fun_mk (st := sEq) l_equ c_equ k_equ
  have b_equ := F_equ.binds (ps := ["self", "other"]) fun _ _ _ _ _ _ us hl => match us, hl with | [_, _], _ => rfl
  have F_gl := fun_mk (st := sPl) l_gl c_gl k_gl
  have b_gl := F_gl.binds (ps := ["self"]) fun _ _ _ _ _ _ us hl => match us, hl with | [_], _ => rfl
  have F_gf := fun_mk (st := sPf) l_gf c_gf k_gf
  have b_gf := F_gf.binds (ps := ["self"]) fun _ _ _ _ _ _ us hl => match us, hl with | [_], _ => rfl
  have F_gt := fun_mk (st := sThr) l_gt c_gt k_gt
  have b_gt := F_gt.binds (ps := ["self"]) fun _ _ _ _ _ _ us hl => match us, hl with | [_], _ => rfl
  have bd : Bind1 K (PySem.W.fnOf "__init__" "RunError.__init__" (defArgs sInit) (defBody sInit) (defScope sInit) .none kV_ini dc_ini pm_ini an_ini cd_ini ct_ini) "value" := ⟨fun s a u _ => .of_eq rfl, fun s a u _ => .of_eq rfl⟩
  have bK : KBn K (PySem.W.fnOf "__init__" "Cloth.__init__" (defArgs sClo) (defBody sClo) (defScope sClo) .none kV_clo dc_clo pm_clo an_clo cd_clo ct_clo) ["self", "loops", "fast"] 1 ["fast", "loops"] gKw gKw := ⟨fun s us ws _ h1 h2 => match us, ws, h1, h2 with | [_], [_, _], _, _ => .of_eq rfl, fun a b => gKw_rel a b⟩
  have m : ∀ {n : Str} {f : Addr}, PySem.W.nsIn K mainGlobals n = some (some (.ref f)) → mg n = some (.ref f) := fun q => PySem.W.mg_of X G q
  refine ⟨PySem.W.fnOf "law" "law" (defArgs sLaw) (defBody sLaw) (defScope sLaw) .none kV_law dc_law pm_law an_law cd_law ct_law, fun s v => .of_eq rfl, fun base _ _ => ?_⟩
  have I : Ini P w K mg base f_ini _ := ⟨ok_init F_ini, bd⟩
  have G_ply := ok_ply (P := P) (w := w) (base := base) F_ply B
  have G_cre := ok_creel (P := P) (w := w) (base := base) F_cre B
  have G_int := ok_IsInt (P := P) (w := w) (base := base) F_int B
  have G_num := ok_IsNum F_num B G_int (m n_int) k_int b_int
  have G_thr := ok_IsThr (P := P) (w := w) (base := base) F_thr B ⟨_, PySem.W.mg_of X G aT⟩
  have G_wro := ok_Wrong F_wro B G_num (m n_num) k_num b_num
  have G_par := ok_Par F_par B G_num (m n_num) k_num b_num
  have G_loo := ok_IsLoop F_loo B G_thr (m n_thr) k_thr b_thr G_par (m n_par) k_par b_par
  have G_ckl := ok_ChkL F_ckl B G_loo (m n_loo) k_loo b_loo I XL'
  have G_ckf := ok_ChkF F_ckf B G_wro (m n_wro) k_wro b_wro I XF
  have G_clo := ok_Clo (CC := CC) F_clo B G_ckl (m n_ckl) k_ckl b_ckl G_ckf (m n_ckf) k_ckf b_ckf
  have G_kid := ok_kids (P := P) (w := w) (base := base) F_kid B
  have G_yar := ok_yarns F_yar F_ply B (m n_ply) b_ply G_ply
  have G_any := ok_any F_any F_ply F_kid B (m n_ply) (m n_kid) b_ply b_kid G_ply G_kid
  have G_isy := ok_Yarn (P := P) (w := w) (base := base) F_isy B
  have G_spo := ok_Spot (P := P) (w := w) (base := base) F_spo B
  have G_lot := ok_Lot F_lot B G_spo (m n_spo) k_spo b_spo
  have G_lps := ok_Lps F_lps B G_spo (m n_spo) k_spo b_spo G_isy (m n_isy) k_isy b_isy
  have G_due := ok_Due F_due B G_lps (m n_lps) k_lps b_lps G_lot (m n_lot) k_lot b_lot
  have G_odd := ok_Odd F_odd B G_ply (m n_ply) k_ply b_ply
  have G_ben := ok_Bent F_ben B G_ply (m n_ply) k_ply b_ply G_odd (m n_odd) k_odd b_odd
  have G_mat : FnOk P w K mg base CX0 6 f_mat _ ["found", "due"] (spM K 6) := mat_step 5 F_mat B (m n_mat) b_mat (mat_step 4 F_mat B (m n_mat) b_mat (mat_step 3 F_mat B (m n_mat) b_mat (mat_step 2 F_mat B (m n_mat) b_mat (mat_step 1 F_mat B (m n_mat) b_mat (mat_step 0 F_mat B (m n_mat) b_mat ok_never)))))
  have G_mad := ok_Made F_mad B T XF XL' ⟨mC, n_clo, i_clo, kC⟩ G_clo (m aC) b_clo bK cc n1 n2
  have Pr : Prp P w K mg base CC := { pL := _, pF := _, pT := _, gL := _, gF := _, gT := _, gN := _, fL := _, fF := _, fT := _, fN := _, aL := aL', aF := aF', aT := aT', aN := ⟨n_len, i_len⟩, bL := b_gl, bF := b_gf, bT := b_gt, bN := b_len, oL := ok_Pl F_gl B, oF := ok_Pf F_gf B, oT := ok_Thr F_gt B, oN := ok_Ln F_len B }
  have G_tol := ok_Told F_tol B G_mat (m n_mat) k_mat b_mat Pr cc n1 n2
  have R : Fns P w K mg base CC := { fP := _, fB := _, fO := _, fY := _, fA := _, fC := _, fD := _, fM := _, fX := _, fT := _, dP := _, dB := _, dO := _, dY := _, dA := _, dC := _, dD := _, dM := _, dX := _, dT := _, gP := m n_ply, gB := m n_ben, gO := m n_odd, gY := m n_yar, gA := m n_any, gC := m n_cre, gD := m n_due, gM := m n_mad, gX := m n_mat, gT := m n_tol, kP := k_ply, kB := k_ben, kO := k_odd, kY := k_yar, kA := k_any, kC := k_cre, kD := k_due, kM := k_mad, kX := k_mat, kT := k_tol, bP := b_ply, bB := b_ben, bO := b_odd, bY := b_yar, bA := b_any, bC := b_cre, bD := b_due, bM := b_mad, bX := b_mat, bT := b_tol, oP := G_ply, oB := G_ben, oO := G_odd, oY := G_yar, oA := G_any, oC := G_cre, oD := G_due, oM := G_mad, oX := G_mat, oT := G_tol }
  have Cl : Cla P w K mg base CC CF CL := { fC := _, fQ := _, dC := _, dQ := _, cc := cc, n1 := n1, n2 := n2, it := it, mC := ⟨mC, n_clo, i_clo, kC⟩, oC := G_clo, gC := m aC, bC := b_clo, eq := n_equ, eqF := i_equ, bQ := b_equ, oQ := ok_Eq F_equ B (m aC) cc n1 n2 it }
  exact ok_Law F_law B R Cl Pr
theorem walk {l : PySem.W.OpenLaw} {q : Program} {loose : List Str} {XP : (Str → Option Value) → Heap → Prop} {YP : World → Heap → Prop} {d : DefRec} {K : Params → PySem.W.Frag} (hn : l.most = some 63) (hdf : d.params.defaults = [])
    (hY : ∀ (w : World) (h : Heap), YP w h → (K w.params).In h)
    (F : ∀ (w : World) (mg : Str → Option Value) (fa : Addr) (h : Heap), (K w.params).In h → h.Ns mainGlobals mg → mg d.name = some (.ref fa) →
      ∃ fd : FuncData, (∀ (s : Shared) (u : Value), BindsTo s fd ⟨[u], []⟩ [("script", u)]) ∧ ∀ base : Heap, (K w.params).In base → base.Ns mainGlobals mg → FnG l.prog w (K w.params) mg base 10 fa fd ["script"] (spLaw (K w.params))) :
    PySem.W.WalkO q loose XP YP l.row.toRowW d [] (fun f vs => PySem.call f vs) :=
  MXk.walk_G (n := 63) (k := 10) (x := "script") (sp := fun w => spLaw (K w.params)) hn (by decide) hdf ⟨rfl, by decide, by decide⟩ hY F (fun _ _ a ns hl _ hS => ⟨a, ns, rfl, hS, hl, fun _ => rfl⟩)
end K1
open PySem PySem.W PyProof.Rows
set_option maxRecDepth 100000 in
set_option maxHeartbeats 0 in
theorem PySem.Challenge.cw_runsdown_k01_cloths_made_holds : PySem.Challenge.rw_runsdown_k01_cloths_made.Holds := by
  w_on; o_law; k_head; (case hw => w_witness2)
  k_fill
  refine K1.walk (l := PySem.Challenge.rw_runsdown_k01_cloths_made) rfl rfl (fun w h Y => PySem.W.kIn_of Y) ?F
  case F =>
    intro w mg fa h KX G hmg
    refine' K1.all_mk KX G hmg ?aR ?aF ?xF ?aL ?xL ?aP ?aC ?mC ?kC ?aT ?n_int ?n_num ?n_thr ?n_wro ?n_par ?n_loo ?n_ckl ?n_ckf ?n_cre ?n_ply ?n_mat ?n_yar ?n_any ?n_kid ?n_isy ?n_spo ?n_lot ?n_lps ?n_odd ?n_mad ?n_due ?n_tol ?n_ben ?n_law ?n_ini ?i_ini ?n_clo ?i_clo ?n_len ?i_len ?n_equ ?i_equ ?n_gl ?q_gl ?n_gf ?q_gf ?n_gt ?q_gt ?l_int ?c_int ?k_int ?l_num ?c_num ?k_num ?l_thr ?c_thr ?k_thr ?l_wro ?c_wro ?k_wro ?l_par ?c_par ?k_par ?l_loo ?c_loo ?k_loo ?l_ckl ?c_ckl ?k_ckl ?l_ckf ?c_ckf ?k_ckf ?l_cre ?c_cre ?k_cre ?l_ply ?c_ply ?k_ply ?l_mat ?c_mat ?k_mat ?l_yar ?c_yar ?k_yar ?l_any ?c_any ?k_any ?l_kid ?c_kid ?k_kid ?l_isy ?c_isy ?k_isy ?l_spo ?c_spo ?k_spo ?l_lot ?c_lot ?k_lot ?l_lps ?c_lps ?k_lps ?l_odd ?c_odd ?k_odd ?l_mad ?c_mad ?k_mad ?l_due ?c_due ?k_due ?l_tol ?c_tol ?k_tol ?l_ben ?c_ben ?k_ben ?l_law ?c_law ?k_law ?l_ini ?c_ini ?k_ini ?l_clo ?c_clo ?k_clo ?l_len ?c_len ?k_len ?l_equ ?c_equ ?k_equ ?l_gl ?c_gl ?k_gl ?l_gf ?c_gf ?k_gf ?l_gt ?c_gt ?k_gt ?hF ?hL ?hB ?hC ?hP ?hN
    (case aR => k_is)
    (case aF => k_is)
    (case xF => (refine' K1.clse_mk ?zxe ?zxr; (case zxe => k_is); (case zxr => decide +kernel)))
    (case aL => k_is)
    (case xL => (refine' K1.clse_mk ?zxe ?zxr; (case zxe => k_is); (case zxr => decide +kernel)))
    (case aP => k_is)
    (case aC => k_is)
    (case mC => k_is)
    (case kC => k_is)
    (case aT => k_is)
    (case n_int => k_is)
    (case n_num => k_is)
    (case n_thr => k_is)
    (case n_wro => k_is)
    (case n_par => k_is)
    (case n_loo => k_is)
    (case n_ckl => k_is)
    (case n_ckf => k_is)
    (case n_cre => k_is)
    (case n_ply => k_is)
    (case n_mat => k_is)
    (case n_yar => k_is)
    (case n_any => k_is)
    (case n_kid => k_is)
    (case n_isy => k_is)
    (case n_spo => k_is)
    (case n_lot => k_is)
    (case n_lps => k_is)
    (case n_odd => k_is)
    (case n_mad => k_is)
    (case n_due => k_is)
    (case n_tol => k_is)
    (case n_ben => k_is)
    (case n_law => k_is)
    (case n_ini => k_is)
    (case i_ini => k_is)
    (case n_clo => k_is)
    (case i_clo => k_is)
    (case n_len => k_is)
    (case i_len => k_is)
    (case n_equ => k_is)
    (case i_equ => k_is)
    (case n_gl => k_is)
    (case q_gl => k_is)
    (case n_gf => k_is)
    (case q_gf => k_is)
    (case n_gt => k_is)
    (case q_gt => k_is)
    (case l_int => k_is)
    (case c_int => k_is)
    (case k_int => k_is)
    (case l_num => k_is)
    (case c_num => k_is)
    (case k_num => k_is)
    (case l_thr => k_is)
    (case c_thr => k_is)
    (case k_thr => k_is)
    (case l_wro => k_is)
    (case c_wro => k_is)
    (case k_wro => k_is)
    (case l_par => k_is)
    (case c_par => k_is)
    (case k_par => k_is)
    (case l_loo => k_is)
    (case c_loo => k_is)
    (case k_loo => k_is)
    (case l_ckl => k_is)
    (case c_ckl => k_is)
    (case k_ckl => k_is)
    (case l_ckf => k_is)
    (case c_ckf => k_is)
    (case k_ckf => k_is)
    (case l_cre => k_is)
    (case c_cre => k_is)
    (case k_cre => k_is)
    (case l_ply => k_is)
    (case c_ply => k_is)
    (case k_ply => k_is)
    (case l_mat => k_is)
    (case c_mat => k_is)
    (case k_mat => k_is)
    (case l_yar => k_is)
    (case c_yar => k_is)
    (case k_yar => k_is)
    (case l_any => k_is)
    (case c_any => k_is)
    (case k_any => k_is)
    (case l_kid => k_is)
    (case c_kid => k_is)
    (case k_kid => k_is)
    (case l_isy => k_is)
    (case c_isy => k_is)
    (case k_isy => k_is)
    (case l_spo => k_is)
    (case c_spo => k_is)
    (case k_spo => k_is)
    (case l_lot => k_is)
    (case c_lot => k_is)
    (case k_lot => k_is)
    (case l_lps => k_is)
    (case c_lps => k_is)
    (case k_lps => k_is)
    (case l_odd => k_is)
    (case c_odd => k_is)
    (case k_odd => k_is)
    (case l_mad => k_is)
    (case c_mad => k_is)
    (case k_mad => k_is)
    (case l_due => k_is)
    (case c_due => k_is)
    (case k_due => k_is)
    (case l_tol => k_is)
    (case c_tol => k_is)
    (case k_tol => k_is)
    (case l_ben => k_is)
    (case c_ben => k_is)
    (case k_ben => k_is)
    (case l_law => k_is)
    (case c_law => k_is)
    (case k_law => k_is)
    (case l_ini => k_is)
    (case c_ini => k_is)
    (case k_ini => k_is)
    (case l_clo => k_is)
    (case c_clo => k_is)
    (case k_clo => k_is)
    (case l_len => k_is)
    (case c_len => k_is)
    (case k_len => k_is)
    (case l_equ => k_is)
    (case c_equ => k_is)
    (case k_equ => k_is)
    (case l_gl => k_is)
    (case c_gl => k_is)
    (case k_gl => k_is)
    (case l_gf => k_is)
    (case c_gf => k_is)
    (case k_gf => k_is)
    (case l_gt => k_is)
    (case c_gt => k_is)
    (case k_gt => k_is)
    (case hF => kernel_rfl)
    (case hL => kernel_rfl)
    (case hB => kernel_rfl)
    (case hC => kernel_rfl)
    (case hP => kernel_rfl)
    (case hN => kernel_rfl)
