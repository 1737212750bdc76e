import PyProof.Rows.All
import Wide.All
import OpenK.AllK
import Wide.FinOn
import HandS.ForMost
import HandS.ForExc
import HandS.ExcInit
import HandS.ExcIs
import HandS.ExcField
import HandS.ExcValue
import HandS.IsInst
import HandS.Evl
import HandS.Wide
import HandS.WideMore
import HandS.Walk
import HandS.SetFor
import HandS.Strs
import PyProof.Rows.SortShellAny
import HandS.More
import KE.SortData
import HandS.Conv
import HandS.TupAny
import HandS.TupMul
import HandS.Style
import HandS.Dict
import HandS.Iter
import KE.GoesEnum
import HandS.DictComp
import KE.KDictWalk
import PyProof.Rows.ReprR
import PyProof.ReprLen
import PyProof.CallFns
import PyProof.P3Eq
import PySem.Challenge.RW_likeholes_k01_inventory_errors
set_option Elab.async false
set_option linter.all false
set_option maxRecDepth 100000
set_option maxHeartbeats 4000000
/-! exceptions of own classes as values: made, asked by isinstance, their fields read -/
namespace ExV
open PySem PySem.W PySem.Calls PyProof.Rows
section
variable {prog : Program} {w : World} {A : Around} {E : Value → Shared → Prop} {K : Frag} {x D : Addr} {ox : Obj} {od : Option Obj}
theorem class_found (c : L2.ExcC K D) : findObj K D od "__class__" = some (.bind (.builtin "getset_descriptor.__get__") (.builtin "object.__class__")) := by
  obtain ⟨cd, hc, _⟩ := any_some c.hd
  have a1 := c.ha
  have a2 := c.hn
  have a3 := c.ht
  simp [findObj, hc, a1, a2, a3]
theorem class_asked {s : Shared} {Q : Option Value → Shared → Prop} (c : L2.ExcC K D) (kin : K.In s.heap) (inst : InstAt s.heap x ox D od) (q : Q (some (.ref D)) { s with toks := s.toks + 1 }) :
    wpAny (model prog w) A (getAttr? (.ref x) "__class__") Q E s := by
  have fo := class_found (od := od) c
  obtain ⟨hh, gg, dd, tt, oo⟩ := s
  have lt := inst.type (M := model prog w)
  have lga := looks_findIn (M := model prog w) kin c.hg
  have lgt := looks_findIn (M := model prog w) kin c.hk
  have lfo := looks_find (M := model prog w) kin inst fo
  have lsub : Looks (model prog w) hh (isInstance (.ref x) (.type "BaseException")) true := lt.andThen (looks_subIn kin c.hs)
  have b0 : (false && onTheHeap (Value.builtin "BaseException.__getattribute__")) = false := rfl
  have b1 : (onTheHeap (Value.ref D) && Value.builtin "BaseException.__getattribute__" == Value.builtin "object.__getattribute__") = false := by
    have z : (Value.builtin "BaseException.__getattribute__" == Value.builtin "object.__getattribute__") = false := by decide +kernel
    rw [z]
    rfl
  unfold getAttr? getAttrBy? getAttrBy
  refine wpAny_bind (wpAny_mkText (wpAny_bind (wpAny_attempt (wpAny_holding (wpAny_bind (lt.at (wpAny_bind (lga.at ?_))))))))
  show wpAny _ _ (if (onTheHeap (Value.ref D) && Value.builtin "BaseException.__getattribute__" == Value.builtin "object.__getattribute__") = true then _ else _) _ _ _
  rw [b1, if_neg Bool.false_ne_true]
  unfold getAttrByItsOwn hookBefore
  refine wpAny_bind ?_
  rw [if_pos (show onTheHeap (Value.ref D) = true from rfl)]
  refine lgt.at (wpAny_bind (wpAny_attempt (wpAny_holding ?_)))
  unfold callGetattribute
  rw [b0, if_neg Bool.false_ne_true]
  unfold boundAndCalled
  rw [PySem.F.excAttr_ValueError.ga.bind (.ref x)]
  refine wpAny_bind (wpAny_pure ?_)
  show wpAny _ _ (call (.builtin "BaseException.__getattribute__") [.ref x, .str "__class__" tt]) _ _ _
  refine wpAny_call (codeAny_call_builtin PySem.F.excAttr_ValueError.ga.plain PySem.F.entry_bexc_ga ?_)
  refine @check_slot (model prog w) _ _ ⟨hh, gg, dd, tt + 1, oo⟩ "BaseException.__getattribute__" "BaseException" "__getattribute__" (.ref x) [.str "__class__" tt] [] _
    (by decide +kernel) (by decide +kernel) lsub (PySem.F.args_bexc_ga (.ref x) (.str "__class__" tt)) ?_
  unfold Builtin.«object.__getattribute__»
  refine wpAny_bind (wpAny_of_eq (a := ((Value.ref x : Value), [Value.str "__class__" tt])) (by first | rfl | (simp only [slotArgs]; rfl)) ?_)
  refine wpAny_bind (wpAny_pure (wpAny_bind (lt.at (wpAny_bind (lfo.at ?_)))))
  show wpAny _ _ (holding [Value.builtin "object.__class__"] (call (.builtin "getset_descriptor.__get__") [.builtin "object.__class__", .ref x, .ref D]) >>= ret) _ _ _
  refine wpAny_bind (wpAny_holding (wpAny_call (class_get (s := ⟨hh, gg, dd, tt + 1, oo⟩) (ox := ox) (od := od) kin inst c.hm ?_)))
  refine wpAny_pure ?_
  show wpAny _ _ (handedOut (.ref D)) _ _ _
  rw [handedOut_of (v := .ref D) rfl]
  first
    | exact wpAny_pure (wpAny_bind (wpAny_pure (wpAny_pure q)))
    | exact wpAny_pure (wpAny_pure q)
    | exact wpAny_pure q
theorem kit_exc (c : L2.ExcC K D) : KitX K (.ref x) (.ref D) (fun h => InstAt h x ox D od) where
  ty := fun _ _ _ inst => inst.type
  it := fun _ h kin _ => by
    obtain ⟨cd, hc, _⟩ := any_some c.hd
    unfold clsIn at hc
    split at hc
    · rename_i look
      intro A' Q' E' s' k q
      unfold isType loadHead
      exact wpAny_bind (wpAny_loadPart (k _ _ (kin _ _ look)) (wpAny_pure q))
    · cases hc
  ne := fun h tp dd its n sl kin htp => by
    obtain ⟨cd, hc, _⟩ := any_some c.hd
    unfold clsIn at hc
    split at hc
    · rename_i look
      refine Bool.eq_false_iff.mpr fun q => ?_
      have e : D = tp := Value.ref.inj (beq_iff_eq.mp q)
      subst e
      have z := (kin _ _ look).symm.trans htp
      cases z
    · cases hc
  ca := fun kin inst k => class_asked c kin inst k
end
end ExV
set_option Elab.async false
set_option linter.all false
set_option maxRecDepth 100000
set_option maxHeartbeats 4000000
/-! an own exception class over ValueError, called with one keyword -/
namespace ExV
open PySem PySem.W PySem.Calls PyProof.Rows PySem.HandSPX
section
variable {prog : Program} {w : World} {A : Around} {E : Value → Shared → Prop} {R : Result → Shared → Prop} {h : Heap} {g : Array GenState} {d : Drawn} {t : Nat} {os : OsState}
variable {nm qn : Str} {C N : Addr} {bs bm : List Value} {hdct : Bool} {sn : List Str} {sub : List Value} {ab : Bool} {col : Option Bool} {dd : Option Addr} {k0 k1 k2 k3 k5 : Option Value}
variable (bT : ∀ T : String, bm.contains (.type T) = [Value.type "ValueError", .type "Exception", .type "BaseException", .type "object"].contains (.type T))
include bT
theorem kw_new_check {M : Model} {kw : List (Str × Value)} {Q : Unit → Shared → Prop} (hC : h.get? C = some (excClassObj nm qn C N bs bm hdct sn sub ab col dd k0 k1 k2 k3 k5 "ValueError.__new__"))
    (q : Q () ⟨h, g, d, t, os⟩) : wpAny M A (checkBuiltinCall "ValueError.__new__" ⟨[.ref C], kw⟩) Q E ⟨h, g, d, t, os⟩ := by
  have F := PySem.F.excBase_ValueError
  have inB : (Value.ref C :: bm).contains (.type "ValueError") = true := by rw [List.contains_cons, bT, F.hasB, Bool.or_true]
  have star := F.noStar
  simp only [checkBuiltinCall, F.newKind, F.newSplit, F.newRow]
  repeat (first | refine wpAny_loadPart_at hC ?_ | (refine wpAny_isSubtype_exc hC ?_; rw [inB]) | refine wpAny_staticBase_exc hC ?_ | refine wpAny_madeBy_exc hC ?_ | simp only [bne_self_eq_false, Bool.false_eq_true, if_false] | wp_step)
  exact q
theorem kw_new {kw : List (Str × Value)} (hC : h.get? C = some (excClassObj nm qn C N bs bm hdct sn sub ab col dd k0 k1 k2 k3 k5 "ValueError.__new__"))
    (q : R (.ok (.ret (.ref (h.objs.size + 1)))) ⟨(h.push (kdv_tup [])).push (excO C h.objs.size), g, d, t, os⟩) :
    codeAny (model prog w) A (.builtin "ValueError.__new__" ⟨[.ref C], kw⟩) R ⟨h, g, d, t, os⟩ := by
  have F := PySem.F.excBase_ValueError
  have ends := F.ends
  have inB : (Value.ref C :: bm).contains (.type "ValueError") = true := by rw [List.contains_cons, bT, F.hasB, Bool.or_true]
  have noA : (Value.ref C :: bm).contains (.type "AttributeError") = false := by rw [List.contains_cons, bT, F.noAttr]; rfl
  have noN : (Value.ref C :: bm).contains (.type "NameError") = false := by rw [List.contains_cons, bT, F.noName]; rfl
  refine codeAny_builtinAt F.entry ?_
  unfold Builtin.«BaseException.__new__»
  refine PySem.wpAt_bind ?_
  show PySem.wpAt _ _ _ (stack >>= _) _ _ _
  refine PySem.wpAt_bind (PySem.wpAt_stack fun p below => PySem.wpAt_of_wpAny ?_)
  wp_walk
  refine PySem.wpAt_of_wpAny ?_
  rw [F.owner]
  repeat (first | with_reducible refine wpAny_madeHere_exc F.canon hC ?_ | with_reducible refine wpAny_loadPart_at hC ?_ | (with_reducible refine wpAny_isSubtype_exc hC ?_; first | rw [inB] | rw [noA] | rw [noN]) | wp_step)
  show R _ _
  rw [Heap.size_push]
  exact q
theorem kw_type_call {kw : List (Str × Value)} {fI : Addr} {Q : Fin → Shared → Prop} (hC : h.get? C = some (excClassObj nm qn C N bs bm hdct sn sub ab col dd k0 k1 k2 k3 k5 "ValueError.__new__"))
    (li : Looks (model prog w) h (typeLookup (.ref C) "__init__") (some (.ref fI))) (lb : ∀ self, Looks (model prog w) h (bindSpecial (.ref fI) self) (.ref fI, [self]))
    (q : codeAny (model prog w) A (.call (.ref fI) ⟨[.ref (h.objs.size + 1)], kw⟩)
      (fun r s' => match r with | .ok (.ret v) => v = .none ∧ Q (.done (.ret (.ref (h.objs.size + 1)))) s' | .ok _ => False | .error e => E e s')
      ⟨(h.push (kdv_tup [])).push (excO C h.objs.size), g, d, t, os⟩) :
    wpAny (model prog w) A (Builtin.«type.__call__» ⟨[.ref C], kw⟩) Q E ⟨h, g, d, t, os⟩ := by
  have F := PySem.F.excBase_ValueError
  repeat (first | with_reducible refine wpAny_loadPart_at hC ?_ | with_reducible refine wpAny_madeBy_exc hC ?_ | wp_step)
  refine codeAny_call_builtin_code (Code.quiet_builtin _ F.quiet) (kw_new_check bT hC ?_)
  refine kw_new bT hC ?_
  show wpAny _ _ _ _ _ _
  have kp : ∀ b o, h.get? b = some o → ((h.push (kdv_tup [])).push (excO C h.objs.size)).get? b = some o := fun b o e => Heap.get?_push_of_some _ (Heap.get?_push_of_some _ e)
  have atC := kp _ _ hC
  have atE : ((h.push (kdv_tup [])).push (excO C h.objs.size)).get? (h.objs.size + 1) = some (excO C h.objs.size) := by heap_get
  have inC : (Value.ref C :: bm).contains (.ref C) = true := by simp
  have li1 := li.keeps kp
  have lb1 := (lb (.ref (h.objs.size + 1))).keeps kp
  unfold isInstance
  repeat (first | with_reducible refine wpAny_loadPart_at atE ?_ | (with_reducible refine wpAny_isSubtype_exc atC ?_; rw [inC]) | wp_step)
  show wpAny _ _ (typeLookup (.ref C) _) _ _ _
  refine li1.at (wpAny_holding (wpAny_bind (lb1.at ?_)))
  refine wpAny_bind (wpAny_call (codeAny_mono q fun r s' z => ?_))
  rcases r with e | (v | _ | _ | _) <;> first | exact z | exact z.elim | skip
  obtain ⟨rfl, z⟩ := z
  first
    | exact wpAny_pure (wpAny_pure z)
    | (wp_walk; exact z)
theorem kw_call {kw : List (Str × Value)} {fI : Addr} (hC : h.get? C = some (excClassObj nm qn C N bs bm hdct sn sub ab col dd k0 k1 k2 k3 k5 "ValueError.__new__"))
    (li : Looks (model prog w) h (typeLookup (.ref C) "__init__") (some (.ref fI))) (lb : ∀ self, Looks (model prog w) h (bindSpecial (.ref fI) self) (.ref fI, [self]))
    (q : codeAny (model prog w) (A.under (.builtin "type.__call__" ⟨[.ref C], kw⟩)) (.call (.ref fI) ⟨[.ref (h.objs.size + 1)], kw⟩) (InitBack (h.objs.size + 1) R)
      ⟨(h.push (kdv_tup [])).push (excO C h.objs.size), g, d, t, os⟩) :
    codeAny (model prog w) A (.call (.ref C) ⟨[], kw⟩) R ⟨h, g, d, t, os⟩ := by
  have f1 := tc_lookup
  have f2 := tc_bind (.ref C)
  have isT : (⟨h, g, d, t, os⟩ : Shared).TypeIs (.ref C) "type" := ⟨_, hC, rfl⟩
  refine codeAny_of_tree ?_
  show wpAny _ _ (callAny (.ref C) _) _ _ _
  repeat (any_goals (first | assumption | with_reducible refine wpAny_loadPart_at hC ?_ | wp_step))
  refine ⟨rfl, ?_⟩
  refine codeAny_call_builtin_at (Code.quiet_builtin _ (by decide +kernel)) entry_typeCall (wpAny_check_type_call_sub hC (kw_type_call bT hC li lb ?_))
  refine codeAny_mono q fun r s' z => ?_
  rcases r with e | (v | _ | _ | _) <;> exact z
end
end ExV
set_option Elab.async false
set_option linter.all false
set_option maxRecDepth 100000
set_option maxHeartbeats 4000000
/-! the same over the layer: an exception is tracked as exo (its dict as exd) -/
namespace ExV
open PySem PySem.Spec PyProof.Rows L2
abbrev Ext (H H' : Hp) : Prop := Evl.Ex H H'
/-- an exception object of the class at D, with its fields -/
def Exc (H : Hp) (a D : Addr) (fs : Option (List (Str × V))) : Prop := match fs with
  | none => H a = some (exo a D none)
  | some fs => ∃ d, H a = some (exo a D (some d)) ∧ H d = some (exd d fs)
theorem Exc.mono {H H' : Hp} {a D : Addr} {fs : Option (List (Str × V))} (e : Ext H H') (h : Exc H a D fs) : Exc H' a D fs := by
  cases fs with
  | none => exact e _ _ h
  | some fs =>
    obtain ⟨d, h1, h2⟩ := h
    exact ⟨d, e _ _ h1, e _ _ h2⟩
section
variable {X : Cx} {pins : List (Addr × Obj)} {σ : L2.St} {H : Hp} {s : Shared} {a D C fI : Addr} {fs : Option (List (Str × V))} {f x : Str} {e : Expr} {te : TE} {ta : TA} {p pos kpos : Pos}
theorem Exc.inst (I : Inv X pins σ H s) (h : Exc H a D fs) : ∃ ox od, PySem.W.InstAt s.heap a ox D od := by
  cases fs with
  | none =>
    obtain ⟨t1, ho⟩ := exo_at I.hok (show H a = some (exo a D none) from h)
    exact ⟨_, none, ho, rfl, rfl, True.intro⟩
  | some fs =>
    obtain ⟨d, h1, h2⟩ := h
    obtain ⟨t1, ho⟩ := exo_at I.hok h1
    obtain ⟨mA, ⟨o, es, ep, hn, _⟩, _⟩ := exd_at I.hok h2
    exact ⟨_, some o, ho, rfl, rfl, hn⟩
/-- isinstance(e, c), e a tracked exception -/
def rIsX (K : PySem.W.Frag) : List V → Hp → VK → Prop := fun xs H Q => ∃ (a D : Addr) (fs : Option (List (Str × V))) (c : V) (cv : Value) (b : Bool),
  xs = [.ref a, c] ∧ ExcC K D ∧ Exc H a D fs ∧ ClsV c cv ∧ PySem.W.kitOne K (.ref D) cv = some b ∧ Q (.bl b) H
theorem call_isX : CallR X (.builtin "isinstance") (rIsX X.K) := by
  intro pins s σ H xs us Q I r h
  obtain ⟨a, D, fs, c, cv, b, rfl, cc, hx, k, e, q⟩ := h
  obtain ⟨u1, u2, rfl, r1, r2⟩ := vals2 r
  cases r1
  have e2 := k.eq r2
  subst e2
  obtain ⟨ox, od, J⟩ := hx.inst I
  exact PySem.W.kia_one (kit_exc cc) I.kIn J e (fun z => nomatch z) fun tk => ⟨.bl b, H, I.tok tk, rfl, q⟩
/-- e.f, a field of a tracked exception -/
def tXF (K : PySem.W.Frag) (f : Str) (te : TE) : TE := fun σ H Q => te σ H fun x H1 => ∃ (a C : Addr) (fs : List (Str × V)) (v : V),
  x = .ref a ∧ XfC K C ∧ PySem.W.findIn K (.ref C) f = some none ∧ Exc H1 a C (some fs) ∧ fs.lookup f = some v ∧ Q v H1
theorem pe_xfv (he : PE X e te) (hb : attributeBase e f X.env (eval e X.env) = eval e X.env := by rfl) : PE X (.Attribute e f pos) (tXF X.K f te) := by
  refine ⟨fun pins s σ H Q I h => ?_⟩
  refine attr_of hb (thn (he.run pins s σ H _ I h) fun u s1 ⟨x, H1, I1, rx, a, C, fs, v, ex, T, hno, ⟨d, h1, h2⟩, l, q⟩ => ?_)
  subst ex
  obtain rfl : u = Value.ref a := rx
  obtain ⟨t1, ho⟩ := exo_at I1.hok h1
  obtain ⟨mA, hns, hr⟩ := exd_at I1.hok h2
  obtain ⟨od, hod, hl⟩ := lookIn_ns hns
  obtain ⟨u, hu, ru⟩ := RelO.some_of (v := v) (o := mA f) (by rw [← l]; exact hr f)
  have J : PySem.W.InstAt s1.heap a _ C (some od) := ⟨ho, rfl, rfl, hod⟩
  exact HandSPX.exc_get I1.kIn J T.ga T.gg T.exC (PySem.W.findObj_own T.hdC hno rfl (by rw [hl, hu])) (handed_of ru) ⟨v, H1, I1.tok _, ru, q⟩
/-- C() and C(e), C without an __init__ of its own -/
theorem exc_made {us : List Value} {Q : VK} (I : Inv X pins σ H s) (q : PySem.W.excIn X.K C [.type "ValueError", .type "Exception", .type "BaseException", .type "object"] "ValueError.__new__" = true) (hl : us.length ≤ sizeLine)
    (h : ∀ a, H a = none → Q (.ref a) (upd H a (exo a C none))) : wpAny (model X.prog X.w) X.A (call (.ref C) us) (EP X pins σ Q) X.xe s := by
  obtain ⟨bm, N, nm, qn, bs, hdct, sn, sub, ab, col, dd, k0, k1, k2, k3, k5, mN, hC, hN, hni, T⟩ := exc_obj I.kIn q
  refine wpAny_call_exc_subT PySem.F.excBase_ValueError T hC hN hni (fun h' a hm => ?_) hl
  have hn : H a = none := I.hok.gone hm.new
  obtain ⟨t, ht, _, _⟩ := hm.there
  exact ⟨.ref a, upd H a (exo a C none), I.laidN hm.keeps hm.new hn (exo_ok ht), rfl, h a hn⟩
def tMk0 (C : Addr) (ta : TA) : TE := fun σ H Q => ta σ H fun vs H1 => vs.length ≤ 1000 ∧ ∀ a, H1 a = none → Q (.ref a) (upd H1 a (exo a C none))
theorem pe_mk1 (q : PySem.W.excIn X.K C [.type "ValueError", .type "Exception", .type "BaseException", .type "object"] "ValueError.__new__" = true) (gC : X.mg x = some (.ref C)) (kC : PySem.W.keepIn X.K (.ref C) = true) (hg : Gl X x)
    (ha : PA X [e] ta) (hs : starEach [e] X.env = (false, eval e X.env) :: starEach [] X.env := by rfl) (hdb : (x == ("__debug__" : Str)) = false := by decide) :
    PE X (.Call (.Name x p) [e] [] pos) (tMk0 C ta) := by
  refine ⟨fun pins s σ H Q I h => ?_⟩
  refine wpAny_Call_Name_kw (ld_glob I hg gC ?_ hdb)
  refine PySem.W.callWith_K (h₀ := X.base) I.ok.mod.kin kC (thn (ha.run pos pins s σ H _ I h) fun us s1 ⟨vs, H1, I1, r1, hz, q1⟩ => ⟨I1.kIn, ?_⟩) hs (by rfl)
  exact exc_made I1 q (by rw [List.nil_append, ← r1.length, sizeLine_eq]; omega) q1
theorem pe_mk0 (q : PySem.W.excIn X.K C [.type "ValueError", .type "Exception", .type "BaseException", .type "object"] "ValueError.__new__" = true) (gC : X.mg x = some (.ref C)) (kC : PySem.W.keepIn X.K (.ref C) = true) (hg : Gl X x)
    (hdb : (x == ("__debug__" : Str)) = false := by decide) : PE X (.Call (.Name x p) [] [] pos) (tMk0 C tNil) := by
  refine ⟨fun pins s σ H Q I h => ?_⟩
  refine wpAny_Call_Name_kw (ld_glob I hg gC ?_ hdb)
  exact PySem.W.callWith_K0 I.kIn kC (exc_made (us := []) I q (Nat.zero_le _) h.2)
/-- C(e) and C(f = e), C's __init__ storing its one argument under f -/
def spIni (C : Addr) (f : Str) : Sp := fun vs H Q _ => ∃ (a : Addr) (y : V), vs = [.ref a, y] ∧ H a = some (exo a C none) ∧ ∀ dx, H dx = none → dx ≠ a → Q .non (upd (upd H dx (exd dx [(f, y)])) a (exo a C (some dx)))
/-- what is known of such a class -/
structure IniC (P : Program) (w : World) (K : PySem.W.Frag) (mg : Str → Option Value) (base : Heap) (C fI : Addr) (f : Str) : Prop where
  T : OexC K C
  iC : PySem.W.findIn K (.ref C) "__init__" = some (some (.ref fI))
  tI : PySem.W.typeIn K (.ref fI) = some (.type "function")
  fn : ∃ fd, FnOk P w K mg base CX0 1 fI fd ["self", f] (spIni C f) ∧ (∀ (s : Shared) (u v : Value), BindsTo s fd ⟨[u, v], []⟩ [("self", u), (f, v)]) ∧ (∀ (s : Shared) (u v : Value), BindsTo s fd ⟨[u], [(f, v)]⟩ [("self", u), (f, v)])
def tMkI (C : Addr) (f : Str) (ta : TA) : TE := fun σ H Q => ta σ H fun vs H1 => ∃ y, vs = [y] ∧ ∀ a H2, H1 a = none → Ext H1 H2 → Exc H2 a C (some [(f, y)]) → Q (.ref a) H2
theorem ini_run {us : List Value} {kw : List (Str × Value)} {y : V} {v : Value} {Q : VK} (Z : IniC X.prog X.w X.K X.mg X.base C fI f) (hr : Room 2 X.A) (I : Inv X pins σ H s) (ry : RelV y v)
    (hsh : (us = [v] ∧ kw = []) ∨ (us = [] ∧ kw = [(f, v)])) (q : ∀ a H2, H a = none → Ext H H2 → Exc H2 a C (some [(f, y)]) → Q (.ref a) H2) :
    wpAny (model X.prog X.w) X.A (call (.ref C) us kw) (EP X pins σ Q) X.xe s := by
  obtain ⟨nm, qn, N, bs, bm, sn, sub, ab, col, dd, k0, k1, k2, k3, k5, hC, hbm⟩ := Z.T.cls
  obtain ⟨fd, F1, b1, b2⟩ := Z.fn
  obtain ⟨hp, g, dr, tk, os⟩ := s
  have hn : H (hp.objs.size + 1) = none := I.hok.fresh (Nat.le_succ _)
  have kk : ∀ (T : Obj) b o, hp.get? b = some o → ((hp.push T).push (PySem.HandSPX.excO C hp.objs.size)).get? b = some o := fun T b o z => Heap.get?_push_of_some _ (Heap.get?_push_of_some _ z)
  have sz : ∀ T : Obj, (hp.push T).objs.size = hp.objs.size + 1 := fun T => Heap.size_push _ _
  have hget : ∀ T : Obj, ((hp.push T).push (PySem.HandSPX.excO C hp.objs.size)).get? (hp.objs.size + 1) = some (PySem.HandSPX.excO C hp.objs.size) := fun T => by
    have z := Heap.get?_push_size (hp.push T) (o := PySem.HandSPX.excO C hp.objs.size) rfl
    rw [sz] at z
    exact z
  have I2 : ∀ T : Obj, Inv X pins σ (upd H (hp.objs.size + 1) (exo (hp.objs.size + 1) C none)) ⟨(hp.push T).push (PySem.HandSPX.excO C hp.objs.size), g, dr, tk, os⟩ := fun T =>
    I.laid (t' := tk) (a := hp.objs.size + 1) (o := exo (hp.objs.size + 1) C none) (h' := (hp.push T).push (PySem.HandSPX.excO C hp.objs.size)) (kk T) (Nat.le_succ _) (exo_ok (hget T))
  have hsp : spIni C f [.ref (hp.objs.size + 1), y] (upd H (hp.objs.size + 1) (exo (hp.objs.size + 1) C none)) (fun v H2 => v = .non ∧ Q (.ref (hp.objs.size + 1)) H2) (fun _ _ _ => False) := by
    refine ⟨_, _, rfl, upd_same, fun dx nd ne => ⟨rfl, ?_⟩⟩
    have nd' : H dx = none := by
      rw [upd_ne ne] at nd
      exact nd
    refine q _ _ hn (fun b o z => ?_) ⟨dx, upd_same, ?_⟩
    · rw [upd_ne (ne_of_none z hn), upd_ne (ne_of_none z nd'), upd_ne (ne_of_none z hn)]
      exact z
    · rw [upd_ne ne, upd_same]
  have back : ∀ (T : Obj) r s', CR CX0 X.stack X.prog X.w (upd H (hp.objs.size + 1) (exo (hp.objs.size + 1) C none)) ⟨(hp.push T).push (PySem.HandSPX.excO C hp.objs.size), g, dr, tk, os⟩ (fun v H2 => v = .non ∧ Q (.ref (hp.objs.size + 1)) H2) (fun _ _ _ => False) r s' →
      PySem.W.InitBack (hp.objs.size + 1) (fun r s' => match r with | .ok (.ret u) => EP X pins σ Q u s' | .ok _ => False | .error e => X.xe e s') r s' := fun T r s' z => by
    cases r with
    | error er => exact False.elim z
    | ok fl =>
      cases fl with
      | ret u =>
        obtain ⟨v', H2, J, rv, ev, q2⟩ := (I2 T).after z
        obtain ⟨ev, q2⟩ : v' = .non ∧ Q (.ref (hp.objs.size + 1)) H2 := ⟨ev, q2⟩
        subst ev
        exact ⟨rv, ⟨.ref (hp.objs.size + 1), H2, J, rfl, q2⟩⟩
      | next => exact False.elim z
      | brk => exact False.elim z
      | cont => exact False.elim z
  rcases hsh with ⟨rfl, rfl⟩ | ⟨rfl, rfl⟩
  · refine wpAny_call (codeAny_mono (PySem.HandSPX.call_own (R := fun r s' => match r with | .ok (.ret u) => EP X pins σ Q u s' | .ok _ => False | .error e => X.xe e s') PySem.F.excBase_ValueError (fun Y => PySem.HandSPX.refsVE_contains Y bm hbm) (I.kIn _ _ hC)
      (PySem.W.looks_findIn I.kIn Z.iC) (fun self => PySem.W.bind_fn I.kIn self Z.tI) (by rw [sizeLine_eq]; exact (by decide : 1 ≤ 16777216))
      (codeAny_mono (F1.run _ X.stack _ _ ⟨[Value.ref (hp.objs.size + 1), v], []⟩ [Value.ref (hp.objs.size + 1), v] [V.ref (hp.objs.size + 1), y] _ (fun _ _ _ => False) (hr.make C [v] []) ((I2 _).env0.make C [v] []) (b1 _ _ _) (.cons rfl (.cons ry .nil)) hsp)
        (back _))) fun r s' z => ?_)
    cases r with
    | error er => exact z
    | ok fl => cases fl <;> exact z
  · refine wpAny_call (codeAny_mono (kw_call (R := fun r s' => match r with | .ok (.ret u) => EP X pins σ Q u s' | .ok _ => False | .error e => X.xe e s') (fun Y => PySem.HandSPX.refsVE_contains Y bm hbm) (I.kIn _ _ hC)
      (PySem.W.looks_findIn I.kIn Z.iC) (fun self => PySem.W.bind_fn I.kIn self Z.tI)
      (codeAny_mono (F1.run _ X.stack _ _ ⟨[Value.ref (hp.objs.size + 1)], [(f, v)]⟩ [Value.ref (hp.objs.size + 1), v] [V.ref (hp.objs.size + 1), y] _ (fun _ _ _ => False) (hr.make C [] [(f, v)]) ((I2 _).env0.make C [] [(f, v)]) (b2 _ _ _) (.cons rfl (.cons ry .nil)) hsp)
        (back _))) fun r s' z => ?_)
    cases r with
    | error er => exact z
    | ok fl => cases fl <;> exact z
theorem pe_mkI (Z : IniC X.prog X.w X.K X.mg X.base C fI f) (hr : Room 2 X.A) (gC : X.mg x = some (.ref C)) (hg : Gl X x)
    (ha : PA X [e] ta) (hs : starEach [e] X.env = (false, eval e X.env) :: starEach [] X.env := by rfl) (hdb : (x == ("__debug__" : Str)) = false := by decide) :
    PE X (.Call (.Name x p) [e] [] pos) (tMkI C f ta) := by
  refine ⟨fun pins s σ H Q I h => ?_⟩
  refine wpAny_Call_Name_kw (ld_glob I hg gC ?_ hdb)
  refine PySem.W.callWith_K (h₀ := X.base) I.ok.mod.kin Z.T.kC (thn (ha.run pos pins s σ H _ I h) fun us s1 ⟨vs, H1, I1, r1, y, ev, q1⟩ => ⟨I1.kIn, ?_⟩) hs (by rfl)
  subst ev
  obtain ⟨u, rfl, ru⟩ := vals1 r1
  exact ini_run Z hr I1 ru (.inl ⟨rfl, rfl⟩) q1
theorem pe_mkK (Z : IniC X.prog X.w X.K X.mg X.base C fI f) (hr : Room 2 X.A) (gC : X.mg x = some (.ref C)) (hg : Gl X x) (he : PE X e te)
    (hall : (backToKw pos (keywordEach [⟨some f, e, kpos⟩] X.env)).all (·.1.isSome) = true := by rfl) (hks : (backToKw pos (keywordEach [⟨some f, e, kpos⟩] X.env)).filterMap (·.1) = [f] := by rfl) (hdb : (x == ("__debug__" : Str)) = false := by decide)
    (hpl : ((backTo pos (starEach [] X.env)).any (·.1) || (backToKw pos (keywordEach [⟨some f, e, kpos⟩] X.env)).any (·.1.isNone)) = false := by rfl) :
    PE X (.Call (.Name x p) [] [⟨some f, e, kpos⟩] pos) (tMkI C f (tCons te tNil)) := by
  refine ⟨fun pins s σ H Q I h => ?_⟩
  refine wpAny_Call_Name_kw (ld_glob I hg gC ?_ hdb)
  refine PySem.W.callWith_KW0 (h₀ := X.base) I.ok.mod.kin Z.T.kC hall ?_ hpl
  refine thn ((pk_cons (nm := some f) (kpos := kpos) he pk_nil).run pos pins s σ H _ I h) fun ws s2 ⟨zs, H2, I2, rz, y, ev, q2⟩ => ⟨I2.kIn, ?_⟩
  subst ev
  obtain ⟨u, rfl, ru⟩ := vals1 rz
  rw [hks]
  exact ini_run Z hr I2 ru (.inr ⟨rfl, rfl⟩) q2
end
end ExV
set_option Elab.async false
set_option linter.all false
set_option maxRecDepth 100000
set_option maxHeartbeats 4000000
/-! what the laws' helpers share: powers, lists of ints as data, heaps but for two addresses -/
namespace Lw
open PySem PySem.Spec PyProof.Rows L2
abbrev Ex := @Evl.Ex
theorem op_powB {X : Cx} : OpR X (binaryOp .Pow) (rI (fun i j => 0 ≤ j ∧ (Builtin.Int.intBits i : Int) * j ≤ 2 ^ 27) fun i j => .int (i ^ j.toNat)) := opI fun _ _ _ _ _ _ _ hc q => pow_int hc.1 hc.2 q
/-- cells: what the script is made into -/
def cellMax : Int := (10 ^ 60) ^ 20
def Cells (ns : List Int) : Prop := ns ≠ [] ∧ ns.length ≤ 63 ∧ ∀ n ∈ ns, -cellMax < n ∧ n < cellMax
/-- the source at S.1, its cells at S.2, turned t times -/
structure Src (H : Hp) (S : Addr × Addr) (t : Nat) : Prop where
  ne : S.1 ≠ S.2
  at1 : H S.1 = some (.lst [.ref S.2, .int (t : Int)])
  at2 : ∃ ns : List Int, Cells ns ∧ H S.2 = some (.lst (ns.map V.int))
/-- all that was tracked stands as it stood, but for the source -/
def But (S : Addr × Addr) (H H' : Hp) : Prop := ∀ b o, b ≠ S.1 → b ≠ S.2 → H b = some o → H' b = some o
theorem But.refl (S : Addr × Addr) (H : Hp) : But S H H := fun _ _ _ _ h => h
theorem But.trans {S : Addr × Addr} {H H1 H2 : Hp} (a : But S H H1) (b : But S H1 H2) : But S H H2 := fun c o h1 h2 h => b c o h1 h2 (a c o h1 h2 h)
theorem But.of {S : Addr × Addr} {H H' : Hp} (e : Ex H H') : But S H H' := fun b o _ _ h => e b o h
theorem Src.mono {H H' : Hp} {S : Addr × Addr} {t : Nat} (e : Ex H H') (h : Src H S t) : Src H' S t := by
  obtain ⟨ne, h1, ns, hc, h2⟩ := h
  exact ⟨ne, e _ _ h1, ns, hc, e _ _ h2⟩
theorem dpInts {K : PySem.W.Frag} {H : Hp} : ∀ ns : List Int, DpAll K H (ns.map V.int) (ns.map PyData.int)
  | [] => .nil
  | n :: ns => .cons (.int n) (dpInts ns)
theorem layInts : ∀ ns : List Int, PyData.canLayAll0 (ns.map PyData.int) = true
  | [] => by simp [PyData.canLayAll0]
  | n :: ns => by simp [PyData.canLayAll0, PyData.canLay0, layInts ns]
theorem depthInts : ∀ ns : List Int, PyData.depthAll (ns.map PyData.int) ≤ 1
  | [] => by simp [PyData.depthAll]
  | n :: ns => by
    have h := depthInts ns
    simp only [List.map_cons, PyData.depthAll, PyData.depth]
    omega
theorem shapedInts (ns : List Int) : SeqAt.shaped (.list (ns.map PyData.int)) = true := by
  unfold SeqAt.shaped
  rw [Bool.and_eq_true]
  refine ⟨by simp only [PyData.canLay0]; exact layInts ns, decide_eq_true ?_⟩
  have h := depthInts ns
  simp only [PyData.depth]
  omega
theorem eqvNil (ns : List Int) : PyData.eqv (.list (ns.map PyData.int)) (.list []) = ns.isEmpty := by
  cases ns <;> simp [PyData.eqv, PyData.eqvAll]
theorem bits60 : (Builtin.Int.intBits (10 ^ 60) : Int) * 20 ≤ 2 ^ 27 := by decide +kernel
theorem cellPos : 0 < cellMax := by decide +kernel
theorem cellBits : cellMax.natAbs < 2 ^ 4000 := by decide +kernel
end Lw
set_option Elab.async false
set_option linter.all false
set_option maxRecDepth 100000
set_option maxHeartbeats 4000000
/-! data over the layer: what is told of a value by a part F of the heap that nobody changes any more; H is all that is tracked (F and what is still changed) -/
namespace Dl
open PySem PySem.Spec PyProof.Rows L2
abbrev D := PyData
abbrev Ex := @Evl.Ex
mutual
inductive Tl (F : Hp) : V → D → Prop
  | non : Tl F .non .none
  | bl (b : Bool) : Tl F (.bl b) (.bool b)
  | int (i : Int) : Tl F (.int i) (.int i)
  | str (x : Str) : Tl F (.str x) (.str x)
  | lst {a : Addr} {xs : List V} {ds : List D} : F a = some (.lst xs) → TlAll F xs ds → Tl F (.ref a) (.list ds)
  | tup {a : Addr} {xs : List V} {ds : List D} : F a = some (.tup xs) → TlAll F xs ds → Tl F (.ref a) (.tuple ds)
inductive TlAll (F : Hp) : List V → List D → Prop
  | nil : TlAll F [] []
  | cons {v : V} {vs : List V} {d : D} {ds : List D} : Tl F v d → TlAll F vs ds → TlAll F (v :: vs) (d :: ds)
end
mutual
theorem Tl.mono {F G : Hp} (e : Ex F G) : ∀ {v : V} {d : D}, Tl F v d → Tl G v d
  | _, _, .non => .non
  | _, _, .bl b => .bl b
  | _, _, .int i => .int i
  | _, _, .str x => .str x
  | _, _, .lst h t => .lst (e _ _ h) (TlAll.mono e t)
  | _, _, .tup h t => .tup (e _ _ h) (TlAll.mono e t)
theorem TlAll.mono {F G : Hp} (e : Ex F G) : ∀ {vs : List V} {ds : List D}, TlAll F vs ds → TlAll G vs ds
  | _, _, .nil => .nil
  | _, _, .cons h t => .cons (Tl.mono e h) (TlAll.mono e t)
end
mutual
theorem Tl.dp {K : PySem.W.Frag} {F : Hp} : ∀ {v : V} {d : D}, Tl F v d → Dp K F v d
  | _, _, .non => .non
  | _, _, .bl b => .bl b
  | _, _, .int i => .int i
  | _, _, .str x => .str x
  | _, _, .lst h t => .lst (.inl (.inl h)) (TlAll.dp t)
  | _, _, .tup h t => .tup (.inl (.inl h)) (TlAll.dp t)
theorem TlAll.dp {K : PySem.W.Frag} {F : Hp} : ∀ {vs : List V} {ds : List D}, TlAll F vs ds → DpAll K F vs ds
  | _, _, .nil => .nil
  | _, _, .cons h t => .cons (Tl.dp h) (TlAll.dp t)
end
theorem TlAll.length {F : Hp} : ∀ {vs : List V} {ds : List D}, TlAll F vs ds → vs.length = ds.length
  | _, _, .nil => rfl
  | _, _, .cons _ t => congrArg Nat.succ (TlAll.length t)
theorem TlAll.append {F : Hp} : ∀ {vs ws : List V} {ds es : List D}, TlAll F vs ds → TlAll F ws es → TlAll F (vs ++ ws) (ds ++ es)
  | _, _, _, _, .nil, s => s
  | _, _, _, _, .cons h t, s => .cons h (TlAll.append t s)
theorem TlAll.get {F : Hp} : ∀ {vs : List V} {ds : List D} {i : Nat} {d : D}, TlAll F vs ds → ds[i]? = some d → ∃ v, vs[i]? = some v ∧ Tl F v d
  | _, _, _, _, .nil, h => by simp at h
  | _, _, 0, d, .cons h _, e => by
    have z := Option.some.inj (show some _ = some d from e)
    exact ⟨_, rfl, z ▸ h⟩
  | _, _, i + 1, d, .cons _ t, e => by
    obtain ⟨v, h1, h2⟩ := TlAll.get (i := i) t (by simpa using e)
    exact ⟨v, by simpa using h1, h2⟩
theorem TlAll.getV {F : Hp} : ∀ {vs : List V} {ds : List D} {i : Nat} {v : V}, TlAll F vs ds → vs[i]? = some v → ∃ d, ds[i]? = some d ∧ Tl F v d
  | _, _, _, _, .nil, h => by simp at h
  | _, _, 0, v, .cons h _, e => by
    have z := Option.some.inj (show some _ = some v from e)
    exact ⟨_, rfl, z ▸ h⟩
  | _, _, i + 1, v, .cons _ t, e => by
    obtain ⟨d, h1, h2⟩ := TlAll.getV (i := i) t (by simpa using e)
    exact ⟨d, by simpa using h1, h2⟩
theorem TlAll.take {F : Hp} : ∀ {vs : List V} {ds : List D} (n : Nat), TlAll F vs ds → TlAll F (vs.take n) (ds.take n)
  | _, _, 0, _ => by
    rw [List.take_zero, List.take_zero]
    exact .nil
  | _, _, _ + 1, .nil => .nil
  | _, _, n + 1, .cons h t => .cons h (TlAll.take n t)
theorem TlAll.drop {F : Hp} : ∀ {vs : List V} {ds : List D} (n : Nat), TlAll F vs ds → TlAll F (vs.drop n) (ds.drop n)
  | _, _, 0, h => h
  | _, _, _ + 1, .nil => .nil
  | _, _, n + 1, .cons _ t => TlAll.drop n t
/-- what is new in G is new -/
def Nw (H F G : Hp) : Prop := ∀ b, F b = none → H b ≠ none → G b = none
theorem Nw.refl {H F : Hp} : Nw H F F := fun _ h _ => h
theorem Nw.trans {H H2 F G G2 : Hp} (a : Nw H F G) (e : Ex H H2) (b : Nw H2 G G2) : Nw H F G2 := fun c h1 h2 => b c (a c h1 h2) (by
  cases q : H c with
  | none => exact absurd q h2
  | some o =>
    rw [e c o q]
    exact fun z => nomatch z)
theorem Nw.upd {H F : Hp} {p : Addr} {o : HO} (hp : H p = none) : Nw H F (L2.upd F p o) := fun b h1 h2 => by
  rw [upd_ne (fun z => h2 (by rw [z]; exact hp))]
  exact h1
/-- a step of the two heaps: nothing of both is changed, what is new in F is new -/
structure Stp (F H F' H' : Hp) : Prop where
  f : Ex F F'
  h : Ex H H'
  i : Ex F' H'
  n : Nw H F F'
theorem Stp.refl {F H : Hp} (i : Ex F H) : Stp F H F H := ⟨Evl.Ex.refl _, Evl.Ex.refl _, i, Nw.refl⟩
theorem Stp.trans {F H F1 H1 F2 H2 : Hp} (a : Stp F H F1 H1) (b : Stp F1 H1 F2 H2) : Stp F H F2 H2 := ⟨a.f.trans b.f, a.h.trans b.h, b.i, a.n.trans a.h b.n⟩
/-- a new object, shared from the start -/
theorem Stp.new {F H : Hp} {p : Addr} {o : HO} (i : Ex F H) (hp : H p = none) : Stp F H (upd F p o) (upd H p o) := by
  have fp : F p = none := Evl.fresh_back i hp
  refine ⟨Evl.Ex.new fp, Evl.Ex.new hp, fun a u e => ?_, Nw.upd hp⟩
  by_cases z : a = p
  · subst z
    rw [upd_same] at e
    rw [upd_same]
    exact e
  · rw [upd_ne z] at e
    rw [upd_ne z]
    exact i a u e
/-- a new object that H alone knows -/
theorem Stp.hid {F H : Hp} {p : Addr} {o : HO} (i : Ex F H) (hp : H p = none) : Stp F H F (upd H p o) := ⟨Evl.Ex.refl _, Evl.Ex.new hp, i.trans (Evl.Ex.new hp), Nw.refl⟩
/-- te is evaluated to the data d -/
def Ev (te : TE) (σ : L2.St) (F : Hp) (d : D) : Prop := ∀ F1 H1, Ex F F1 → Ex F1 H1 → ∀ Q : VK, (∀ x F2 H2, Stp F1 H1 F2 H2 → Tl F2 x d → Q x H2) → te σ H1 Q
def EvA (ta : TA) (σ : L2.St) (F : Hp) (ds : List D) : Prop := ∀ F1 H1, Ex F F1 → Ex F1 H1 → ∀ Q : List V → Hp → Prop, (∀ xs F2 H2, Stp F1 H1 F2 H2 → TlAll F2 xs ds → Q xs H2) → ta σ H1 Q
def EvT (tt : TT) (σ : L2.St) (F : Hp) (b : Bool) : Prop := ∀ F1 H1, Ex F F1 → Ex F1 H1 → ∀ Q : Bool → Hp → Prop, (∀ F2 H2, Stp F1 H1 F2 H2 → Q b H2) → tt σ H1 Q
section
variable {K : PySem.W.Frag} {σ : L2.St} {F G H : Hp} {ta : TA} {te tb tx : TE} {t u : TT} {x y : V} {d d1 d2 : D} {ds es : List D} {r : R2}
theorem Ev.mono (e : Ex F G) (h : Ev te σ F d) : Ev te σ G d := fun F1 H1 a b => h F1 H1 (e.trans a) b
theorem EvA.mono (e : Ex F G) (h : EvA ta σ F ds) : EvA ta σ G ds := fun F1 H1 a b => h F1 H1 (e.trans a) b
theorem EvT.mono {b : Bool} (e : Ex F G) (h : EvT t σ F b) : EvT t σ G b := fun F1 H1 a c => h F1 H1 (e.trans a) c
theorem var {i : Nat} (h : σ[i]? = some (some x)) (ht : Tl F x d) : Ev (tVar i) σ F d := fun F1 H1 a b Q q => ⟨x, h, q x F1 H1 (.refl b) (ht.mono a)⟩
theorem int {i : Int} : Ev (tC (.int i)) σ F (.int i) := fun F1 H1 _ b Q q => q _ F1 H1 (.refl b) (.int i)
theorem str {s : Str} : Ev (tC (.str s)) σ F (.str s) := fun F1 H1 _ b Q q => q _ F1 H1 (.refl b) (.str s)
theorem bl {c : Bool} : Ev (tC (.bl c)) σ F (.bool c) := fun F1 H1 _ b Q q => q _ F1 H1 (.refl b) (.bl c)
theorem non : Ev (tC .non) σ F .none := fun F1 H1 _ b Q q => q _ F1 H1 (.refl b) .non
theorem nil : EvA tNil σ F [] := fun F1 H1 _ b Q q => q _ F1 H1 (.refl b) .nil
theorem cons (h : Ev te σ F d) (hr : EvA ta σ F ds) : EvA (tCons te ta) σ F (d :: ds) := fun F1 H1 a b Q q =>
  h F1 H1 a b _ fun x F2 H2 s hx => hr F2 H2 (a.trans s.f) s.i _ fun xs F3 H3 s3 hs => q _ F3 H3 (s.trans s3) (.cons (hx.mono s3.f) hs)
theorem lst (h : EvA ta σ F ds) (hl : ds.length ≤ 100000) : Ev (tLst ta) σ F (.list ds) := fun F1 H1 a b Q q =>
  h F1 H1 a b _ fun xs F2 H2 s hs => ⟨Evl.sz_of (by rw [hs.length]; exact hl), fun p hp => q _ (upd F2 p (.lst xs)) _ (s.trans (.new s.i hp)) (.lst upd_same (hs.mono (Stp.new (o := .lst xs) s.i hp).f))⟩
theorem tup (h : EvA ta σ F ds) (hl : ds.length ≤ 100000) : Ev (tTup ta) σ F (.tuple ds) := fun F1 H1 a b Q q =>
  h F1 H1 a b _ fun xs F2 H2 s hs => ⟨Evl.sz_of (by rw [hs.length]; exact hl), fun p hp => q _ (upd F2 p (.tup xs)) _ (s.trans (.new s.i hp)) (.tup upd_same (hs.mono (Stp.new (o := .tup xs) s.i hp).f))⟩
/-- an operation on data -/
def RV (r : R2) (d1 d2 d : D) : Prop := ∀ F1 H1, Ex F1 H1 → ∀ x y, Tl F1 x d1 → Tl F1 y d2 → ∀ Q : VK, (∀ z F2 H2, Stp F1 H1 F2 H2 → Tl F2 z d → Q z H2) → r x y H1 Q
theorem op (ha : Ev te σ F d1) (hb : Ev tb σ F d2) (hr : RV r d1 d2 d) : Ev (tOp r te tb) σ F d := fun F1 H1 a b Q q =>
  ha F1 H1 a b _ fun x F2 H2 s hx => hb F2 H2 (a.trans s.f) s.i _ fun y F3 H3 s3 hy => hr F3 H3 s3.i x y (hx.mono s3.f) hy Q fun z F4 H4 s4 hz => q z F4 H4 ((s.trans s3).trans s4) hz
/-- a call on data -/
def RC (r : List V → Hp → VK → Prop) (ds : List D) (d : D) : Prop := ∀ F1 H1, Ex F1 H1 → ∀ xs, TlAll F1 xs ds → ∀ Q : VK, (∀ z F2 H2, Stp F1 H1 F2 H2 → Tl F2 z d → Q z H2) → r xs H1 Q
theorem call {r : List V → Hp → VK → Prop} (h : EvA ta σ F ds) (hr : RC r ds d) : Ev (tCB r ta) σ F d := fun F1 H1 a b Q q =>
  h F1 H1 a b _ fun xs F2 H2 s hs => hr F2 H2 s.i xs hs Q fun z F3 H3 s3 hz => q z F3 H3 (s.trans s3) hz
theorem test {c : Bool} (h : Ev te σ F (.bool c)) : EvT (tTest te) σ F c := fun F1 H1 a b Q q => h F1 H1 a b _ fun x F2 H2 s hx => by
  cases hx
  exact ⟨c, rfl, q F2 H2 s⟩
theorem testB {c : Bool} (h : Ev te σ F (.bool c)) : EvT (tB te) σ F c := fun F1 H1 a b Q q => h F1 H1 a b _ fun x F2 H2 s hx => by
  cases hx
  exact ⟨c, rfl, q F2 H2 s⟩
theorem tand {a b : Bool} (h1 : EvT t σ F a) (h2 : a = true → EvT u σ F b) : EvT (tAnd t u) σ F (a && b) := fun F1 H1 e i Q q => h1 F1 H1 e i _ fun F2 H2 s => by
  cases a with
  | true =>
    show u σ H2 Q
    exact h2 rfl F2 H2 (e.trans s.f) s.i Q fun F3 H3 s3 => q F3 H3 (s.trans s3)
  | false =>
    show Q false H2
    exact q F2 H2 s
theorem tor {a b : Bool} (h1 : EvT t σ F a) (h2 : a = false → EvT u σ F b) : EvT (tOr t u) σ F (a || b) := fun F1 H1 e i Q q => h1 F1 H1 e i _ fun F2 H2 s => by
  cases a with
  | true =>
    show Q true H2
    exact q F2 H2 s
  | false =>
    show u σ H2 Q
    exact h2 rfl F2 H2 (e.trans s.f) s.i Q fun F3 H3 s3 => q F3 H3 (s.trans s3)
theorem tnot {a : Bool} (h1 : EvT t σ F a) : EvT (tNot t) σ F (!a) := fun F1 H1 e i Q q => h1 F1 H1 e i _ fun F2 H2 s => q F2 H2 s
theorem andV {a b : Bool} (h1 : Ev te σ F (.bool a)) (h2 : a = true → Ev tb σ F (.bool b)) : Ev (tAndV te tb) σ F (.bool (a && b)) := fun F1 H1 e i Q q => h1 F1 H1 e i _ fun x F2 H2 s hx => by
  cases hx
  refine ⟨a, rfl, ?_⟩
  cases a with
  | true =>
    show tb σ H2 Q
    exact h2 rfl F2 H2 (e.trans s.f) s.i Q fun y F3 H3 s3 hy => q y F3 H3 (s.trans s3) hy
  | false =>
    show Q (.bl false) H2
    exact q _ F2 H2 s (.bl false)
theorem orV {a b : Bool} (h1 : Ev te σ F (.bool a)) (h2 : a = false → Ev tb σ F (.bool b)) : Ev (tOrV te tb) σ F (.bool (a || b)) := fun F1 H1 e i Q q => h1 F1 H1 e i _ fun x F2 H2 s hx => by
  cases hx
  refine ⟨a, rfl, ?_⟩
  cases a with
  | true =>
    show Q (.bl true) H2
    exact q _ F2 H2 s (.bl true)
  | false =>
    show tb σ H2 Q
    exact h2 rfl F2 H2 (e.trans s.f) s.i Q fun y F3 H3 s3 hy => q y F3 H3 (s.trans s3) hy
theorem notV {a : Bool} (h1 : Ev te σ F (.bool a)) : Ev (tNotV te) σ F (.bool (!a)) := fun F1 H1 e i Q q => h1 F1 H1 e i _ fun x F2 H2 s hx => by
  cases hx
  exact ⟨a, rfl, q _ F2 H2 s (.bl _)⟩
theorem ifE {b : Bool} (h : EvT t σ F b) (h1 : b = true → Ev te σ F d) (h2 : b = false → Ev tb σ F d) : Ev (tIf t te tb) σ F d := fun F1 H1 e i Q q => h F1 H1 e i _ fun F2 H2 s => by
  cases b with
  | true =>
    show te σ H2 Q
    exact h1 rfl F2 H2 (e.trans s.f) s.i Q fun y F3 H3 s3 hy => q y F3 H3 (s.trans s3) hy
  | false =>
    show tb σ H2 Q
    exact h2 rfl F2 H2 (e.trans s.f) s.i Q fun y F3 H3 s3 hy => q y F3 H3 (s.trans s3) hy
theorem is_ (h : Ev te σ F d1) (e : d1 = d) : Ev te σ F d := e ▸ h
theorem tis {a b : Bool} (h : EvT t σ F a) (e : a = b) : EvT t σ F b := e ▸ h
/-! operations -/
theorem rI0i {g : Int → Int → Int} {i j : Int} : RV (rI0 fun i j => .int (g i j)) (.int i) (.int j) (.int (g i j)) := fun F1 H1 e x y hx hy Q q => by
  cases hx
  cases hy
  exact ⟨i, j, rfl, rfl, q _ F1 H1 (.refl e) (.int _)⟩
theorem rI0b {g : Int → Int → Bool} {i j : Int} : RV (rI0 fun i j => .bl (g i j)) (.int i) (.int j) (.bool (g i j)) := fun F1 H1 e x y hx hy Q q => by
  cases hx
  cases hy
  exact ⟨i, j, rfl, rfl, q _ F1 H1 (.refl e) (.bl _)⟩
theorem rIi {C : Int → Int → Prop} {g : Int → Int → Int} {i j : Int} (hc : C i j) : RV (rI C fun i j => .int (g i j)) (.int i) (.int j) (.int (g i j)) := fun F1 H1 e x y hx hy Q q => by
  cases hx
  cases hy
  exact ⟨i, j, rfl, rfl, hc, q _ F1 H1 (.refl e) (.int _)⟩
theorem eqD (h1 : SeqAt.shaped d1 = true) (h2 : SeqAt.shaped d2 = true) : RV (rEqD K) d1 d2 (.bool (PyData.eqv d1 d2)) := fun F1 H1 e x y hx hy Q q =>
  ⟨d1, d2, (hx.mono e).dp, (hy.mono e).dp, h1, h2, q _ F1 H1 (.refl e) (.bl _)⟩
theorem neD (h1 : SeqAt.shaped d1 = true) (h2 : SeqAt.shaped d2 = true) : RV (rNeD K) d1 d2 (.bool (!PyData.eqv d1 d2)) := fun F1 H1 e x y hx hy Q q =>
  ⟨d1, d2, (hx.mono e).dp, (hy.mono e).dp, h1, h2, q _ F1 H1 (.refl e) (.bl _)⟩
theorem cat (hz : ds.length + es.length ≤ 100000) : RV rCat (.list ds) (.list es) (.list (ds ++ es)) := fun F1 H1 e x y hx hy Q q => by
  cases hx with
  | lst h1 t1 =>
    cases hy with
    | lst h2 t2 =>
      exact ⟨_, _, _, _, rfl, rfl, e _ _ h1, e _ _ h2, Evl.sz_of (by rw [t1.length, t2.length]; exact hz), fun p hp => q _ _ _ (.new e hp) (.lst upd_same ((t1.append t2).mono (Stp.new (o := .lst _) e hp).f))⟩
theorem ixL {i : Nat} (h : ds[i]? = some d) : RV (rIxL K) (.list ds) (.int (i : Int)) d := fun F1 H1 e x y hx hy Q q => by
  cases hx with
  | lst h1 t1 =>
    cases hy
    obtain ⟨v, hv, tv⟩ := t1.get h
    exact ⟨_, _, _, v, rfl, rfl, .inl (.inl (e _ _ h1)), atI_nat hv, q v F1 H1 (.refl e) tv⟩
theorem ixT {i : Nat} (h : ds[i]? = some d) : RV (rIxT K) (.tuple ds) (.int (i : Int)) d := fun F1 H1 e x y hx hy Q q => by
  cases hx with
  | tup h1 t1 =>
    cases hy
    obtain ⟨v, hv, tv⟩ := t1.get h
    exact ⟨_, _, _, v, rfl, rfl, .inl (.inl (e _ _ h1)), atI_nat hv, q v F1 H1 (.refl e) tv⟩
theorem lenL : RC (Evl.rLenS K) [.list ds] (.int (ds.length : Int)) := fun F1 H1 e xs hx Q q => by
  cases hx with
  | cons h t =>
    cases t
    cases h with
    | lst h1 t1 => exact ⟨_, _, rfl, .inl (.inl (.inl (e _ _ h1))), by rw [t1.length]; exact q _ F1 H1 (.refl e) (.int _)⟩
theorem lenT : RC (Evl.rLenS K) [.tuple ds] (.int (ds.length : Int)) := fun F1 H1 e xs hx Q q => by
  cases hx with
  | cons h t =>
    cases t
    cases h with
    | tup h1 t1 => exact ⟨_, _, rfl, .inr (.inl (.inl (e _ _ h1))), by rw [t1.length]; exact q _ F1 H1 (.refl e) (.int _)⟩
/-! statements -/
variable {DD : Ends} {tu tw tz : TS}
theorem q_asg {i : Nat} (h : Ev te σ F d) (b : Ex F H) (k : ∀ x F1 H1, Stp F H F1 H1 → Tl F1 x d → tz DD (σ.set i (some x)) H1) : tSeq (tAsg te (gName i)) tz DD σ H := h F H (Evl.Ex.refl _) b _ k
theorem s_asg {i : Nat} (h : Ev te σ F d) (b : Ex F H) (k : ∀ x F1 H1, Stp F H F1 H1 → Tl F1 x d → DD.nx (σ.set i (some x)) H1) : tAsg te (gName i) DD σ H := h F H (Evl.Ex.refl _) b _ k
theorem s_ret (h : Ev te σ F d) (b : Ex F H) (k : ∀ x F1 H1, Stp F H F1 H1 → Tl F1 x d → DD.rt x H1) : tRet te DD σ H := h F H (Evl.Ex.refl _) b _ k
theorem s_drop (h : Ev te σ F d) (b : Ex F H) (k : ∀ F1 H1, Stp F H F1 H1 → DD.nx σ H1) : tDrop te DD σ H := h F H (Evl.Ex.refl _) b _ fun _ F1 H1 s _ => k F1 H1 s
theorem s_if {c : Bool} (h : EvT t σ F c) (b : Ex F H) (h1 : c = true → ∀ F1 H1, Stp F H F1 H1 → tu DD σ H1) (h2 : c = false → ∀ F1 H1, Stp F H F1 H1 → tw DD σ H1) : tIfS t tu tw DD σ H := h F H (Evl.Ex.refl _) b _ fun F1 H1 s => by
  cases c with
  | true =>
    show tu DD σ H1
    exact h1 rfl F1 H1 s
  | false =>
    show tw DD σ H1
    exact h2 rfl F1 H1 s
theorem q_if {c : Bool} (h : EvT t σ F c) (b : Ex F H) (h1 : c = true → ∀ F1 H1, Stp F H F1 H1 → tu { DD with nx := tz DD } σ H1) (h2 : c = false → ∀ F1 H1, Stp F H F1 H1 → tw { DD with nx := tz DD } σ H1) : tSeq (tIfS t tu tw) tz DD σ H :=
  s_if (DD := { DD with nx := tz DD }) h b h1 h2
theorem q_when {c : Bool} (h : EvT t σ F c) (b : Ex F H) (h1 : c = true → ∀ F1 H1, Stp F H F1 H1 → tu { DD with nx := tz DD } σ H1) (h2 : c = false → ∀ F1 H1, Stp F H F1 H1 → tz DD σ H1) : tSeq (tIfS t tu tNext) tz DD σ H :=
  s_if (DD := { DD with nx := tz DD }) h b h1 h2
/-! comprehensions: the items that are kept, in order -/
def kept (n : Nat) (f : Nat → Bool) (g : Nat → D) : List D := ((List.range n).filter f).map g
theorem kept_yes {n : Nat} {f : Nat → Bool} {g : Nat → D} (h : f n = true) : kept (n + 1) f g = kept n f g ++ [g n] := by
  unfold kept
  simp [List.range_succ, List.filter_append, h]
theorem kept_no {n : Nat} {f : Nat → Bool} {g : Nat → D} (h : f n = false) : kept (n + 1) f g = kept n f g := by
  unfold kept
  simp [List.range_succ, List.filter_append, h]
theorem kept_len (n : Nat) (f : Nat → Bool) (g : Nat → D) : (kept n f g).length ≤ n := by
  have z := List.length_filter_le f (List.range n)
  unfold kept
  simpa using z
/-- between two turns: the list at p is hidden from F -/
def CW (F0 H0 : Hp) (f : Nat → Bool) (g : Nat → D) (p : Addr) (i : Nat) (H : Hp) : Prop := H0 p = none ∧ ∃ F xs, Ex F0 F ∧ Ex F H ∧ Ex H0 H ∧ Nw H0 F0 F ∧ F p = none ∧ H p = some (.lst xs) ∧ TlAll F xs (kept i f g)
theorem cw_turn {F0 H0 H' : Hp} {f : Nat → Bool} {g : Nat → D} {p : Addr} {i : Nat} {σ2 : L2.St} (h : CW F0 H0 f g p i H') (hi : i < 50000) (ht : ∀ F, Ex F0 F → EvT t σ2 F (f i)) (he : ∀ F, Ex F0 F → f i = true → Ev te σ2 F (g i)) :
    t σ2 H' fun b H3 => if b = true then te σ2 H3 fun y H4 => ∃ acc, H4 p = some (.lst acc) ∧ acc.length < sizeLine ∧ CW F0 H0 f g p (i + 1) (upd H4 p (.lst (acc ++ [y]))) else CW F0 H0 f g p (i + 1) H3 := by
  obtain ⟨hp, F, xs, e0, e1, e2, n0, fp, h1, ht1⟩ := h
  have ne : H' p ≠ none := by
    rw [h1]
    exact fun z => nomatch z
  refine ht F e0 F H' (Evl.Ex.refl _) e1 _ fun F3 H3 s3 => ?_
  have ne3 : H3 p ≠ none := by
    rw [s3.h _ _ h1]
    exact fun z => nomatch z
  cases hf : f i with
  | false =>
    show CW F0 H0 f g p (i + 1) H3
    refine ⟨hp, F3, xs, e0.trans s3.f, s3.i, e2.trans s3.h, n0.trans e2 s3.n, s3.n _ fp ne, s3.h _ _ h1, ?_⟩
    rw [kept_no hf]
    exact ht1.mono s3.f
  | true =>
    show te σ2 H3 fun y H4 => ∃ acc, H4 p = some (.lst acc) ∧ acc.length < sizeLine ∧ CW F0 H0 f g p (i + 1) (upd H4 p (.lst (acc ++ [y])))
    refine he F3 (e0.trans s3.f) hf F3 H3 (Evl.Ex.refl _) s3.i _ fun y F4 H4 s4 hy => ⟨xs, s4.h _ _ (s3.h _ _ h1), Evl.sz_lt (by rw [ht1.length]; have := kept_len i f g; omega), hp, F4, _, (e0.trans s3.f).trans s4.f, fun a o ha => ?_, Evl.Ex.mut ((e2.trans s3.h).trans s4.h) hp, (n0.trans e2 s3.n).trans (e2.trans s3.h) s4.n,
      s4.n _ (s3.n _ fp ne) ne3, upd_same, ?_⟩
    · have na : a ≠ p := fun z => by
        rw [z, s4.n _ (s3.n _ fp ne) ne3] at ha
        cases ha
      rw [upd_ne na]
      exact s4.i _ _ ha
    · rw [kept_yes hf]
      exact ((ht1.mono s3.f).mono s4.f).append (.cons hy .nil)
/-- what a list made so is worth behind: shared from now on -/
theorem cw_end {F0 H0 H' : Hp} {f : Nat → Bool} {g : Nat → D} {p : Addr} {n : Nat} (h : CW F0 H0 f g p n H') : ∃ F, Stp F0 H0 F H' ∧ Tl F (.ref p) (.list (kept n f g)) := by
  obtain ⟨hp, F, xs, e0, e1, e2, n0, fp, h1, ht1⟩ := h
  refine ⟨upd F p (.lst xs), ⟨e0.trans (Evl.Ex.new fp), e2, fun a o ha => ?_, fun b hb hb2 => ?_⟩, .lst upd_same (ht1.mono (Evl.Ex.new fp))⟩
  · by_cases z : a = p
    · subst z
      rw [upd_same] at ha
      cases ha
      exact h1
    · rw [upd_ne z] at ha
      exact e1 _ _ ha
  · have nb : b ≠ p := fun z => hb2 (by rw [z]; exact hp)
    rw [upd_ne nb]
    exact n0 b hb hb2
theorem cw_start {F0 H0 : Hp} {f : Nat → Bool} {g : Nat → D} {p : Addr} (e : Ex F0 H0) (hp : H0 p = none) : CW F0 H0 f g p 0 (upd H0 p (.lst [])) :=
  ⟨hp, F0, [], Evl.Ex.refl _, e.trans (Evl.Ex.new hp), Evl.Ex.new hp, Nw.refl, Evl.fresh_back e hp, upd_same, .nil⟩
theorem lcR1 {j : Nat} {vs : List Nat} {n : Int} (f : Nat → Bool) (g : Nat → D) (h : EvA ta σ F [.int n]) (hn : 0 ≤ n ∧ n ≤ 40000) (hw : ∀ x, wipe ((wipe σ vs).set j (some x)) vs = wipe σ vs)
    (ht : ∀ (i : Nat) G, Ex F G → (i : Int) < n → EvT t ((wipe σ vs).set j (some (.int (i : Int)))) G (f i)) (he : ∀ (i : Nat) G, Ex F G → (i : Int) < n → f i = true → Ev te ((wipe σ vs).set j (some (.int (i : Int)))) G (g i)) :
    Ev (tLc (iRng1 ta) (gName j) t te vs) σ F (.list (kept n.toNat f g)) := fun F0 H0 a b Q q => h F0 H0 a b _ fun xs F1 H1 s1 hx => by
  cases hx with
  | cons hv tl =>
    cases tl
    cases hv
    refine ⟨n, rfl, by omega, by omega, fun p hp => lc_range (lo := 0) (n := n.toNat) (CW F1 H1 f g p) (cw_start s1.i hp) (fun i H' hi w => ?_) (fun H' w => ?_)⟩
    · have e0 : (0 : Int) + (i : Int) = (i : Int) := Int.zero_add _
      rw [e0]
      exact ⟨hw _, cw_turn w (by omega) (fun G eg => ht i G ((a.trans s1.f).trans eg) (by omega)) (fun G eg hf => he i G ((a.trans s1.f).trans eg) (by omega) hf)⟩
    · obtain ⟨F2, s2, t2⟩ := cw_end w
      exact q _ F2 H' (s1.trans s2) t2
/-- over data that are a list -/
theorem lcL {tl : TE} {j : Nat} {vs : List Nat} (f : Nat → Bool) (g : Nat → D) (h : Ev tl σ F (.list ds)) (hz : ds.length ≤ 40000) (hw : ∀ x, wipe ((wipe σ vs).set j (some x)) vs = wipe σ vs)
    (ht : ∀ (i : Nat) (x : V) (d : D) G, Ex F G → ds[i]? = some d → Tl G x d → EvT t ((wipe σ vs).set j (some x)) G (f i)) (he : ∀ (i : Nat) (x : V) (d : D) G, Ex F G → ds[i]? = some d → Tl G x d → f i = true → Ev te ((wipe σ vs).set j (some x)) G (g i)) :
    Ev (tLc (iList K tl) (gName j) t te vs) σ F (.list (kept ds.length f g)) := fun F0 H0 a b Q q => h F0 H0 a b _ fun v F1 H1 s1 hx => by
  cases hx with
  | @lst l xs _ h1 t1 =>
    refine ⟨l, rfl, ⟨xs, .inl (.inl (s1.i _ _ h1))⟩, fun p hp => lc_list (xs := xs) (CW F1 H1 f g p) (cw_start s1.i hp) (fun i H' _ w => ?_) (fun i x H' hi w => ?_) (fun H' w => ?_)⟩
    · obtain ⟨_, F, ys, e0, e1, _⟩ := w
      exact .inl (.inl (e1 _ _ (e0 _ _ h1)))
    · have hl := t1.length
      have hil : i < xs.length := (List.getElem?_eq_some_iff.mp hi).1
      obtain ⟨d, hd, td⟩ := t1.getV hi
      exact ⟨hw x, cw_turn w (by omega) (fun G eg => ht i x d G ((a.trans s1.f).trans eg) hd (td.mono eg)) (fun G eg hf => he i x d G ((a.trans s1.f).trans eg) hd (td.mono eg) hf)⟩
    · rw [t1.length] at w
      obtain ⟨F2, s2, t2⟩ := cw_end w
      exact q _ F2 H' (s1.trans s2) t2
end
end Dl
set_option Elab.async false
set_option linter.all false
set_option maxRecDepth 100000
set_option maxHeartbeats 4000000
/-! the D-layer, further: isinstance, comprehensions over any values, calls (the part of K5g and K5h that knows no row) -/
namespace Dl
open PySem PySem.Spec PyProof.Rows L2
/-- a built-in type's name, of data -/
def tyD : D → String
  | .none => "NoneType"
  | .bool _ => "bool"
  | .int _ => "int"
  | .str _ => "str"
  | .list _ => "list"
  | .tuple _ => "tuple"
  | .dict _ => "dict"
theorem Tl.ty {K : PySem.W.Frag} {F H : Hp} {x : V} {d : D} (e : Ex F H) (h : Tl F x d) : TyX K H x (.type (tyD d)) := by
  cases h with
  | non => exact .base .non
  | bl b => exact .base (.bl b)
  | int i => exact .base (.int i)
  | str s => exact .base (.str s)
  | lst h t => exact .base (.lst (e _ _ h))
  | tup h t => exact .base (.tup (e _ _ h))
theorem isi {K : PySem.W.Frag} {σ : L2.St} {F : Hp} {te : TE} {d : D} {n : String} {b : Bool} (h : Ev te σ F d) (hb : kitB (tyD d) n = some b) : Ev (tCB (rIsi K) (tCons te (tCons (tC (.ty n)) tNil))) σ F (.bool b) := fun F1 H1 a i Q q =>
  h F1 H1 a i _ fun x F2 H2 s hx => ⟨x, .ty n, _, _, b, rfl, .ty n, hx.ty s.i, kit_ty hb, q _ F2 H2 s (.bl b)⟩
def isBool : D → Bool
  | .bool _ => true
  | _ => false
theorem kitBool (d : D) : kitB (tyD d) "bool" = some (isBool d) := by
  cases d
  · exact (by decide +kernel : kitB "NoneType" "bool" = some false)
  · exact (by decide +kernel : kitB "bool" "bool" = some true)
  · exact (by decide +kernel : kitB "int" "bool" = some false)
  · exact (by decide +kernel : kitB "str" "bool" = some false)
  · exact (by decide +kernel : kitB "list" "bool" = some false)
  · exact (by decide +kernel : kitB "tuple" "bool" = some false)
  · exact (by decide +kernel : kitB "dict" "bool" = some false)
/-- te is evaluated to x itself -/
def EvV (te : TE) (σ : L2.St) (F : Hp) (P : Hp → V → Prop) : Prop := ∀ F1 H1, Ex F F1 → Ex F1 H1 → ∀ Q : VK, (∀ x F2 H2, Stp F1 H1 F2 H2 → P F2 x → Q x H2) → te σ H1 Q
/-- a comprehension over a list of any values -/
theorem lcV {K : PySem.W.Frag} {σ : L2.St} {F : Hp} {tl te : TE} {t : TT} {j : Nat} {vs : List Nat} {xs : List V} (f : Nat → Bool) (g : Nat → D) (h : EvV tl σ F fun G v => ∃ l, v = .ref l ∧ G l = some (.lst xs)) (hz : xs.length ≤ 40000) (hw : ∀ x, wipe ((wipe σ vs).set j (some x)) vs = wipe σ vs)
    (ht : ∀ (i : Nat) (x : V) G, Ex F G → xs[i]? = some x → EvT t ((wipe σ vs).set j (some x)) G (f i)) (he : ∀ (i : Nat) (x : V) G, Ex F G → xs[i]? = some x → f i = true → Ev te ((wipe σ vs).set j (some x)) G (g i)) :
    Ev (tLc (iList K tl) (gName j) t te vs) σ F (.list (kept xs.length f g)) := fun F0 H0 a b Q q => h F0 H0 a b _ fun v F1 H1 s1 hx => by
  obtain ⟨l, rfl, h1⟩ := hx
  refine ⟨l, rfl, ⟨xs, .inl (.inl (s1.i _ _ h1))⟩, fun p hp => lc_list (xs := xs) (CW F1 H1 f g p) (cw_start s1.i hp) (fun i H' _ w => ?_) (fun i x H' hi w => ?_) (fun H' w => ?_)⟩
  · obtain ⟨_, F, ys, e0, e1, _⟩ := w
    exact .inl (.inl (e1 _ _ (e0 _ _ h1)))
  · have hil : i < xs.length := (List.getElem?_eq_some_iff.mp hi).1
    exact ⟨hw x, cw_turn w (by omega) (fun G eg => ht i x G ((a.trans s1.f).trans eg) hi) (fun G eg hf => he i x G ((a.trans s1.f).trans eg) hi hf)⟩
  · obtain ⟨F2, s2, t2⟩ := cw_end w
    exact q _ F2 H' (s1.trans s2) t2
theorem evar {σ : L2.St} {F : Hp} {i : Nat} {x : V} {P : Hp → V → Prop} (h : σ[i]? = some (some x)) (m : ∀ G, Ex F G → P G x) : EvV (tVar i) σ F P := fun F1 H1 a b Q q => ⟨x, h, q x F1 H1 (.refl b) (m _ a)⟩
/-- a call that hands back a new list of plain values -/
theorem callL {σ : L2.St} {F : Hp} {sp : Sp} {dvs : List V} {E : XK} {ta : TA} {xs : List V} {ds : List D} {P : Hp → List V → Prop} (h : ∀ F1 H1, Ex F F1 → Ex F1 H1 → ∀ Q : List V → Hp → Prop, (∀ vs F2 H2, Stp F1 H1 F2 H2 → P F2 vs → Q vs H2) → ta σ H1 Q)
    (hs : ∀ F1 H1 vs, Ex F F1 → Ex F1 H1 → P F1 vs → ∀ Q : VK, (∀ p H2, H1 p = none → Ex H1 H2 → H2 p = some (.lst xs) → Q (.ref p) H2) → sp (vs ++ dvs) H1 Q E) (hd : ∀ G, TlAll G xs ds) : Ev (tCall sp dvs E ta) σ F (.list ds) := fun F1 H1 a b Q q =>
  h F1 H1 a b _ fun vs F2 H2 s hv => hs F2 H2 vs (a.trans s.f) s.i hv Q fun p H3 hp e3 h3 => by
    have fp := Evl.fresh_back s.i hp
    refine q _ (upd F2 p (.lst xs)) H3 (s.trans ⟨Evl.Ex.new fp, e3, fun c o hc => ?_, Nw.upd hp⟩) (.lst upd_same (hd _))
    by_cases z : c = p
    · subst z
      rw [upd_same] at hc
      cases hc
      exact h3
    · rw [upd_ne z] at hc
      exact e3 _ _ (s.i _ _ hc)
theorem lcR2 {σ : L2.St} {F : Hp} {ta : TA} {te : TE} {t : TT} {j : Nat} {vs : List Nat} {lo n : Int} (f : Nat → Bool) (g : Nat → D) (h : EvA ta σ F [.int lo, .int n]) (hn : -40000 ≤ lo ∧ lo ≤ n ∧ n ≤ 40000 ∧ n - lo ≤ 40000) (hw : ∀ x, wipe ((wipe σ vs).set j (some x)) vs = wipe σ vs)
    (ht : ∀ (i : Nat) G, Ex F G → lo + (i : Int) < n → EvT t ((wipe σ vs).set j (some (.int (lo + (i : Int))))) G (f i)) (he : ∀ (i : Nat) G, Ex F G → lo + (i : Int) < n → f i = true → Ev te ((wipe σ vs).set j (some (.int (lo + (i : Int))))) G (g i)) :
    Ev (tLc (iRng2 ta) (gName j) t te vs) σ F (.list (kept (n - lo).toNat f g)) := fun F0 H0 a b Q q => h F0 H0 a b _ fun xs F1 H1 s1 hx => by
  cases hx with
  | cons hv tl =>
    cases tl with
    | cons hv2 tl2 =>
      cases tl2
      cases hv
      cases hv2
      refine ⟨lo, n, rfl, ⟨by omega, by omega, by omega, by omega⟩, fun p hp => lc_range (lo := lo) (n := (n - lo).toNat) (CW F1 H1 f g p) (cw_start s1.i hp) (fun i H' hi w => ?_) (fun H' w => ?_)⟩
      · exact ⟨hw _, cw_turn w (by omega) (fun G eg => ht i G ((a.trans s1.f).trans eg) (by omega)) (fun G eg hf => he i G ((a.trans s1.f).trans eg) (by omega) hf)⟩
      · obtain ⟨F2, s2, t2⟩ := cw_end w
        exact q _ F2 H' (s1.trans s2) t2
end Dl
set_option Elab.async false
set_option linter.all false
set_option maxRecDepth 100000
set_option maxHeartbeats 4000000
/-! the D-layer, further: len, chained comparisons, comprehensions over texts and tuples, all, calls of functions of data -/
namespace Dl
open PySem PySem.Spec PyProof.Rows L2
section
variable {K : PySem.W.Frag} {σ : L2.St} {F G H : Hp} {ta : TA} {te tb tx tc : TE} {t u : TT} {x y : V} {d d1 d2 d3 : D} {ds es : List D} {r r' : R2}
/-- how long data are -/
def lenOf : D → Option Nat
  | .str z => if z.length ≤ sizeLine then some z.length else none
  | .list ds => some ds.length
  | .tuple ds => some ds.length
  | _ => none
def rLenA (K : PySem.W.Frag) : List V → Hp → VK → Prop := fun xs H Q => ∃ x n, xs = [x] ∧ LenV K x H n ∧ Q (.int n) H
theorem len {n : Nat} (h : lenOf d = some n) : RC (rLenA K) [d] (.int (n : Int)) := fun F1 H1 e xs hx Q q => by
  cases hx with
  | cons hv tl =>
    cases tl
    cases hv with
    | str z =>
      replace h : (if z.length ≤ sizeLine then some z.length else none) = some n := h
      by_cases hz : z.length ≤ sizeLine
      · rw [if_pos hz] at h
        have h' : z.length = n := Option.some.inj h
        subst h'
        exact ⟨_, _, rfl, ⟨hz, rfl⟩, q _ F1 H1 (.refl e) (.int _)⟩
      · rw [if_neg hz] at h
        cases h
    | @lst a xs _ h1 t1 =>
      have h' : _ = n := Option.some.inj h
      subst h'
      refine ⟨_, _, rfl, .inl ⟨xs, .inl (.inl (e _ _ h1)), rfl⟩, ?_⟩
      rw [t1.length]
      exact q _ F1 H1 (.refl e) (.int _)
    | @tup a xs _ h1 t1 =>
      have h' : _ = n := Option.some.inj h
      subst h'
      refine ⟨_, _, rfl, .inr ⟨xs, .inl (.inl (e _ _ h1)), rfl⟩, ?_⟩
      rw [t1.length]
      exact q _ F1 H1 (.refl e) (.int _)
    | non => cases h
    | bl b => cases h
    | int i => cases h
theorem chain {a b : Bool} (h1 : Ev te σ F d1) (h2 : Ev tb σ F d2) (hr : RV r d1 d2 (.bool a)) (h3 : a = true → Ev tc σ F d3) (hr' : a = true → RV r' d2 d3 (.bool b)) : Ev (tChain r r' te tb tc) σ F (.bool (a && b)) := fun F1 H1 e i Q q =>
  h1 F1 H1 e i _ fun x F2 H2 s hx => h2 F2 H2 (e.trans s.f) s.i _ fun y F3 H3 s3 hy => hr F3 H3 s3.i x y (hx.mono s3.f) hy _ fun z F4 H4 s4 hz => by
    cases hz
    refine ⟨a, rfl, ?_⟩
    have s14 := (s.trans s3).trans s4
    cases a with
    | false =>
      rw [if_neg Bool.false_ne_true]
      exact q _ F4 H4 s14 (.bl _)
    | true =>
      rw [if_pos rfl]
      exact h3 rfl F4 H4 (e.trans s14.f) s14.i _ fun w F5 H5 s5 hw => hr' rfl F5 H5 s5.i y w ((hy.mono s4.f).mono s5.f) hw Q fun z F6 H6 s6 hz => q z F6 H6 ((s14.trans s5).trans s6) hz
theorem inSign {c : Nat} {z : Str} : RV (fun x y H Q => ∃ (c : Nat) (z : Str), x = .str ⟨#[c]⟩ ∧ y = .str z ∧ Q (.bl (decide (c ∈ z.cps.toList))) H) (.str ⟨#[c]⟩) (.str z) (.bool (decide (c ∈ z.cps.toList))) := fun F1 H1 e x y hx hy Q q => by
  cases hx
  cases hy
  exact ⟨c, z, rfl, rfl, q _ F1 H1 (.refl e) (.bl _)⟩
theorem notInSign {c : Nat} {z : Str} : RV (fun x y H Q => ∃ (c : Nat) (z : Str), x = .str ⟨#[c]⟩ ∧ y = .str z ∧ Q (.bl (!decide (c ∈ z.cps.toList))) H) (.str ⟨#[c]⟩) (.str z) (.bool (!decide (c ∈ z.cps.toList))) := fun F1 H1 e x y hx hy Q q => by
  cases hx
  cases hy
  exact ⟨c, z, rfl, rfl, q _ F1 H1 (.refl e) (.bl _)⟩
theorem leStr {a b : Str} : RV (fun x y H Q => ∃ i j, x = .str i ∧ y = .str j ∧ Q (.bl (!decide (j.cps.toList < i.cps.toList))) H) (.str a) (.str b) (.bool (!decide (b.cps.toList < a.cps.toList))) := fun F1 H1 e x y hx hy Q q => by
  cases hx
  cases hy
  exact ⟨a, b, rfl, rfl, q _ F1 H1 (.refl e) (.bl _)⟩
/-- over a text, sign by sign -/
theorem lcS {tl : TE} {j : Nat} {vs : List Nat} {z : Str} (f : Nat → Bool) (g : Nat → D) (h : Ev tl σ F (.str z)) (hz : z.cps.size ≤ 40000) (hw : ∀ x, wipe ((wipe σ vs).set j (some x)) vs = wipe σ vs)
    (ht : ∀ (i c : Nat) G, Ex F G → z.cps[i]? = some c → EvT t ((wipe σ vs).set j (some (.str ⟨#[c]⟩))) G (f i)) (he : ∀ (i c : Nat) G, Ex F G → z.cps[i]? = some c → f i = true → Ev te ((wipe σ vs).set j (some (.str ⟨#[c]⟩))) G (g i)) :
    Ev (tLc (iStr tl) (gName j) t te vs) σ F (.list (kept z.cps.size f g)) := fun F0 H0 a b Q q => h F0 H0 a b _ fun v F1 H1 s1 hx => by
  cases hx
  refine ⟨z, rfl, fun p hp => lc_it walk_str (CW F1 H1 f g p) (cw_start s1.i hp) (fun _ _ _ _ => trivial) (fun i x H2 H' hi w y => ?_) (fun H' w => ?_)⟩
  · obtain ⟨rfl, c, hc, rfl⟩ := y
    exact ⟨hw _, cw_turn w (by omega) (fun G eg => ht i c G ((a.trans s1.f).trans eg) hc) (fun G eg hf => he i c G ((a.trans s1.f).trans eg) hc hf)⟩
  · obtain ⟨F2, s2, t2⟩ := cw_end w
    exact q _ F2 H' (s1.trans s2) t2
/-- over data that are a tuple -/
theorem lcT {tl : TE} {j : Nat} {vs : List Nat} (f : Nat → Bool) (g : Nat → D) (h : Ev tl σ F (.tuple ds)) (hz : ds.length ≤ 40000) (hw : ∀ x, wipe ((wipe σ vs).set j (some x)) vs = wipe σ vs)
    (ht : ∀ (i : Nat) (x : V) (d : D) G, Ex F G → ds[i]? = some d → Tl G x d → EvT t ((wipe σ vs).set j (some x)) G (f i)) (he : ∀ (i : Nat) (x : V) (d : D) G, Ex F G → ds[i]? = some d → Tl G x d → f i = true → Ev te ((wipe σ vs).set j (some x)) G (g i)) :
    Ev (tLc (iTup K tl) (gName j) t te vs) σ F (.list (kept ds.length f g)) := fun F0 H0 a b Q q => h F0 H0 a b _ fun v F1 H1 s1 hx => by
  cases hx with
  | @tup l xs _ h1 t1 =>
    refine ⟨l, rfl, ⟨xs, .inl (.inl (s1.i _ _ h1))⟩, fun p hp => lc_tup (xs := xs) (CW F1 H1 f g p) (cw_start s1.i hp) (fun i H' _ w => ?_) (fun i x H' hi w => ?_) (fun H' w => ?_)⟩
    · obtain ⟨_, F, ys, e0, e1, _⟩ := w
      exact .inl (.inl (e1 _ _ (e0 _ _ h1)))
    · have hl := t1.length
      have hil : i < xs.length := (List.getElem?_eq_some_iff.mp hi).1
      obtain ⟨d, hd, td⟩ := t1.getV hi
      exact ⟨hw x, cw_turn w (by omega) (fun G eg => ht i x d G ((a.trans s1.f).trans eg) hd (td.mono eg)) (fun G eg hf => he i x d G ((a.trans s1.f).trans eg) hd (td.mono eg) hf)⟩
    · rw [t1.length] at w
      obtain ⟨F2, s2, t2⟩ := cw_end w
      exact q _ F2 H' (s1.trans s2) t2
theorem tyes : EvT tYes σ F true := fun F1 H1 _ b Q q => q F1 H1 (.refl b)
theorem TlAll.bls : ∀ {vs : List V} {bs : List Bool}, TlAll F vs (bs.map PyData.bool) → vs = bs.map V.bl
  | _, [], .nil => rfl
  | _, b :: bs, .cons h t => by
    cases h
    rw [TlAll.bls t]
    rfl
theorem all {bs : List Bool} : RC (rAll K) [.list (bs.map PyData.bool)] (.bool (bs.all id)) := fun F1 H1 e xs hx Q q => by
  cases hx with
  | cons hv tl =>
    cases tl
    cases hv with
    | @lst a xs _ h1 t1 =>
      rw [t1.bls] at h1
      exact ⟨a, bs, rfl, .inl (.inl (e _ _ h1)), q _ F1 H1 (.refl e) (.bl _)⟩
/-- kept without a test -/
theorem kept_all {n : Nat} {g : Nat → D} : kept n (fun _ => true) g = (List.range n).map g := by
  unfold kept
  rw [List.filter_eq_self.mpr (fun _ _ => rfl)]
theorem kept_bools {α : Type} (p : α → Bool) (l : List α) (g : Nat → D) (h : ∀ i c, l[i]? = some c → g i = .bool (p c)) : kept l.length (fun _ => true) g = (l.map p).map PyData.bool := by
  rw [kept_all]
  apply List.ext_getElem?
  intro i
  rw [List.getElem?_map, List.getElem?_map, List.getElem?_map]
  by_cases hi : i < l.length
  · rw [List.getElem?_range hi, List.getElem?_eq_getElem hi]
    exact congrArg some (h i _ (List.getElem?_eq_getElem hi))
  · rw [List.getElem?_eq_none (by rw [List.length_range]; omega), List.getElem?_eq_none (by omega)]
    rfl
/-- a function of data: it changes nothing, and what it hands back is told by g -/
def spF (ok : List D → Prop) (g : List D → D) : Sp := fun vs H Q _ => ∃ F ds, Ex F H ∧ TlAll F vs ds ∧ ok ds ∧ ∀ y F' H', Stp F H F' H' → Tl F' y (g ds) → Q y H'
theorem callF {ok : List D → Prop} {g : List D → D} {E : XK} (h : EvA ta σ F ds) (hok : ok ds) : Ev (tCall (spF ok g) [] E ta) σ F (g ds) := fun F1 H1 a b Q q =>
  h F1 H1 a b _ fun xs F2 H2 s hs => by
    show spF ok g (xs ++ []) H2 Q E
    rw [List.append_nil]
    exact ⟨F2, ds, s.i, hs, hok, fun y F3 H3 s3 hy => q y F3 H3 (s.trans s3) hy⟩
/-! statements -/
variable {DD : Ends} {tu tw tz : TS}
/-- a tuple's parts into names -/
theorem q_tup {n : Nat} {gs : TGs} (h : Ev te σ F (.tuple ds)) (hn : ds.length = n) (b : Ex F H) (k : ∀ xs F1 H1, Stp F H F1 H1 → TlAll F1 xs ds → gs xs σ H1 (tz DD)) : tSeq (tAsg te (gTup K n gs)) tz DD σ H := h F H (Evl.Ex.refl _) b _ fun x F1 H1 s hx => by
  cases hx with
  | @tup a xs _ h1 t1 => exact ⟨a, xs, rfl, .inl (.inl (s.i _ _ h1)), by rw [t1.length]; exact hn, k xs F1 H1 s t1⟩
end
end Dl
set_option Elab.async false
set_option linter.all false
set_option maxRecDepth 100000
set_option maxHeartbeats 4000000
namespace Dl
open PySem PySem.Spec PyProof.Rows L2
mutual
/-- texts and rows are short, all the way down -/
def fit : D → Bool
  | .none => true
  | .bool _ => true
  | .int _ => true
  | .str z => decide (z.length ≤ 1000) && PyData.strOk z
  | .list ds => decide (ds.length ≤ 1000) && fits ds
  | .tuple ds => decide (ds.length ≤ 1000) && fits ds
  | .dict _ => false
def fits : List D → Bool
  | [] => true
  | d :: ds => fit d && fits ds
end
theorem fits_at : ∀ {ds : List D} {i : Nat} {d : D}, fits ds = true → ds[i]? = some d → fit d = true
  | [], i, d, _, e => by simp at e
  | x :: xs, 0, d, h, e => by
    have h' : (fit x && fits xs) = true := h
    have z := Option.some.inj (show some x = some d from e)
    exact z ▸ (Bool.and_eq_true_iff.mp h').1
  | x :: xs, i + 1, d, h, e => by
    have h' : (fit x && fits xs) = true := h
    exact fits_at (Bool.and_eq_true_iff.mp h').2 (by simpa using e)
theorem fit_tup {ds : List D} (h : fit (.tuple ds) = true) : ds.length ≤ 1000 ∧ fits ds = true := by
  have h' : (decide (ds.length ≤ 1000) && fits ds) = true := h
  exact ⟨of_decide_eq_true (Bool.and_eq_true_iff.mp h').1, (Bool.and_eq_true_iff.mp h').2⟩
theorem fit_lst {ds : List D} (h : fit (.list ds) = true) : ds.length ≤ 1000 ∧ fits ds = true := by
  have h' : (decide (ds.length ≤ 1000) && fits ds) = true := h
  exact ⟨of_decide_eq_true (Bool.and_eq_true_iff.mp h').1, (Bool.and_eq_true_iff.mp h').2⟩
theorem fit_strOk {z : Str} (h : fit (.str z) = true) : z.length ≤ 1000 ∧ PyData.strOk z = true := by
  have h' : (decide (z.length ≤ 1000) && PyData.strOk z) = true := h
  exact ⟨of_decide_eq_true (Bool.and_eq_true_iff.mp h').1, (Bool.and_eq_true_iff.mp h').2⟩
theorem fit_str {z : Str} (h : fit (.str z) = true) : z.length ≤ 1000 := (fit_strOk h).1
mutual
theorem fit_lay : ∀ {d : D}, fit d = true → PyData.canLay0 d = true
  | .none, _ => rfl
  | .bool _, _ => rfl
  | .int _, _ => rfl
  | .str z, h => (fit_strOk h).2
  | .list ds, h => fits_lay (fit_lst h).2
  | .tuple ds, h => fits_lay (fit_tup h).2
  | .dict _, h => by cases h
theorem fits_lay : ∀ {ds : List D}, fits ds = true → PyData.canLayAll0 ds = true
  | [], _ => rfl
  | d :: ds, h => by
    have h' : (fit d && fits ds) = true := h
    have a := fit_lay (Bool.and_eq_true_iff.mp h').1
    have b := fits_lay (Bool.and_eq_true_iff.mp h').2
    show (PyData.canLay0 d && PyData.canLayAll0 ds) = true
    rw [a, b]
    rfl
end
def isStr : D → Bool
  | .str _ => true
  | _ => false
def isTup : D → Bool
  | .tuple _ => true
  | _ => false
def isLst : D → Bool
  | .list _ => true
  | _ => false
theorem kitStr (d : D) : kitB (tyD d) "str" = some (isStr d) := by
  cases d
  · exact (by decide +kernel : kitB "NoneType" "str" = some false)
  · exact (by decide +kernel : kitB "bool" "str" = some false)
  · exact (by decide +kernel : kitB "int" "str" = some false)
  · exact (by decide +kernel : kitB "str" "str" = some true)
  · exact (by decide +kernel : kitB "list" "str" = some false)
  · exact (by decide +kernel : kitB "tuple" "str" = some false)
  · exact (by decide +kernel : kitB "dict" "str" = some false)
theorem kitTup (d : D) : kitB (tyD d) "tuple" = some (isTup d) := by
  cases d
  · exact (by decide +kernel : kitB "NoneType" "tuple" = some false)
  · exact (by decide +kernel : kitB "bool" "tuple" = some false)
  · exact (by decide +kernel : kitB "int" "tuple" = some false)
  · exact (by decide +kernel : kitB "str" "tuple" = some false)
  · exact (by decide +kernel : kitB "list" "tuple" = some false)
  · exact (by decide +kernel : kitB "tuple" "tuple" = some true)
  · exact (by decide +kernel : kitB "dict" "tuple" = some false)
theorem kitLst (d : D) : kitB (tyD d) "list" = some (isLst d) := by
  cases d
  · exact (by decide +kernel : kitB "NoneType" "list" = some false)
  · exact (by decide +kernel : kitB "bool" "list" = some false)
  · exact (by decide +kernel : kitB "int" "list" = some false)
  · exact (by decide +kernel : kitB "str" "list" = some false)
  · exact (by decide +kernel : kitB "list" "list" = some true)
  · exact (by decide +kernel : kitB "tuple" "list" = some false)
  · exact (by decide +kernel : kitB "dict" "list" = some false)
end Dl
namespace Lw
open PySem PySem.Spec PyProof.Rows L2
def topS (i : Nat) : Stmt := PySem.Challenge.pw_likeholes_k01_inventory_errors.main.body.getD i (.Pass ⟨0, 0, 0, 0⟩)
abbrev sWord : Stmt := topS 21
abbrev sKinds : Stmt := topS 22
abbrev sItem : Stmt := topS 23
abbrev sBad : Stmt := topS 24
theorem scWord : FnScope ["value", "letter"] ["value"] (defScope sWord) := ⟨rfl, rfl, rfl, by decide +kernel, rfl, by decide +kernel, by decide +kernel⟩
def letters : Str := "abcdefghijklmnopqrstuvwxyz"
def small (c : Nat) : Bool := decide (c ∈ letters.cps.toList)
/-- a word: one to eight small letters -/
def wordD : PyData → Bool
  | .str z => (decide (1 ≤ (z.length : Int)) && decide ((z.length : Int) ≤ 8)) && z.cps.toList.all small
  | _ => false
/-- a number of the module -/
def GlI (mg : Str → Option Value) (x : Str) (i : Int) : Prop := ∃ t, mg x = some (.int i t)
def GlS (mg : Str → Option Value) (x : Str) (z : Str) : Prop := ∃ t, mg x = some (.str z t)
section
variable {P : Program} {w : World} {K : PySem.W.Frag} {mg : Str → Option Value} {base : Heap}
theorem pe_globI {X : Cx} {x : Str} {i : Int} {pos : Pos} (hg : Gl X x) (h : GlI X.mg x i) (hd : (x == ("__debug__" : Str)) = false := by decide) : PE X (.Name x pos) (tC (.int i)) := by
  obtain ⟨t, h⟩ := h
  exact pe_glob hg h ⟨t, rfl⟩ hd
theorem pe_globS {X : Cx} {x z : Str} {pos : Pos} (hg : Gl X x) (h : GlS X.mg x z) (hd : (x == ("__debug__" : Str)) = false := by decide) : PE X (.Name x pos) (tC (.str z)) := by
  obtain ⟨t, h⟩ := h
  exact pe_glob hg h ⟨t, rfl⟩ hd
abbrev spWord : Sp := Dl.spF (fun ds => ∃ d, ds = [d] ∧ Dl.fit d = true) fun ds => .bool (wordD (ds.getD 0 .none))
theorem ok_word {f : Addr} {fd : FuncData} (F : Fun K "is_word" "is_word" sWord f fd) (mi : mg "isinstance" = none) (ms : mg "str" = none) (ml : mg "len" = none) (ma : mg "all" = none) (g8 : GlI mg "MAX_LETTERS" 8) (gL : GlS mg "LETTERS" letters) :
    FnOk P w K mg base CX0 1 f fd ["value"] spWord := by
  refine F.ok scWord (fun vs H Q E h => ?_) (fun cdv A outer s H vs Q E hr h => ?_)
  · obtain ⟨F, ds, _, ht, ⟨d, rfl, _⟩, _⟩ := h
    exact ht.length
  · obtain ⟨F, ds, b, ht, ⟨d, rfl, hd⟩, q⟩ := h
    have nd := scWord.nd
    refine ⟨_, pss_cons (ps_if (PW.pt (pw_or (pt_not (pt_val (pe_callB call_isi (by rfl) mi (by decide +kernel) (pa_cons (pv 0) (pa_cons (pe_bltn (v := .ty "str") (by rfl) ms (by decide +kernel) rfl) pa_nil)))))
        (pw_or1 (pt_not (pt_chain op_le op_le pe_int (pe_callB call_len (by rfl) ml PySem.boot_len (pa_cons (pv 0) pa_nil)) (pe_globI (by rfl) g8)))))) (pss_one (ps_ret pe_bl)) pss_nil)
      (pss_one (ps_ret (pe_callB (cr_all rfl) (by rfl) ma (by decide +kernel) (pa_cons (pe_lc (own := [("letter", 1)]) (g := gName 1) (tt := tYes) (te := tOp (fun x y H Q => ∃ (c : Nat) (z : Str), x = .str ⟨#[c]⟩ ∧ y = .str z ∧ Q (.bl (decide (c ∈ z.cps.toList))) H) (tVar 1) (tC (.str letters))) (by rfl) nd (pi_str (pv 0))
        (blkOk_by (own := [("letter", 1)]) (N := ["value", "letter"]) (sc := defScope sWord) (by decide +kernel))
        (fun _ _ _ _ _ => pg_name (i := 1) nd rfl (.inl rfl)) (fun _ _ _ _ _ => pts_nil) (fun _ _ _ _ _ => pe_cmpR op_in_sign (pv 1) (pe_globS (by rfl) gL) (by with_unfolding_all rfl))) pa_nil)))), ?_⟩
    cases ht with
    | @cons x _ _ _ hx tl =>
    cases tl
    cases hz : Dl.isStr d with
    | false =>
      refine Dl.q_when (F := F) (c := true) (Dl.tis (Dl.tor (Dl.tnot (Dl.testB (Dl.isi (Dl.var rfl hx) (Dl.kitStr d)))) (fun z => ?_) (b := false)) (by rw [hz]; rfl)) b (fun _ F1 H1 s1 => ?_) (fun z => Bool.noConfusion z)
      · rw [hz] at z
        cases z
      · refine Dl.s_ret (F := F1) Dl.bl s1.i fun y F2 H2 s2 t2 => q y F2 H2 (s1.trans s2) ?_
        have e : wordD d = false := by
          cases d <;> first | rfl | cases hz
        show Dl.Tl F2 y (.bool (wordD d))
        rw [e]
        exact t2
    | true =>
      cases d <;> try cases hz
      rename_i z
      have hl : z.length ≤ 1000 := Dl.fit_str hd
      refine Dl.q_when (F := F) (c := !(decide (1 ≤ (z.length : Int)) && decide ((z.length : Int) ≤ 8))) (Dl.tis (Dl.tor (Dl.tnot (Dl.testB (Dl.isi (Dl.var rfl hx) (Dl.kitStr _)))) (fun _ => Dl.tnot (Dl.test (Dl.chain Dl.int (Dl.call (Dl.cons (Dl.var rfl hx) Dl.nil) (Dl.len (n := z.length) (by
          show (if z.length ≤ sizeLine then some z.length else none) = _
          rw [if_pos (by have := sizeLine_eq; omega)]))) Dl.rI0b (fun _ => Dl.int) (fun _ => Dl.rI0b))))) rfl) b (fun hc F1 H1 s1 => ?_) (fun hc F1 H1 s1 => ?_)
      · refine Dl.s_ret (F := F1) Dl.bl s1.i fun y F2 H2 s2 t2 => q y F2 H2 (s1.trans s2) ?_
        have e : wordD (.str z) = false := by
          show ((decide (1 ≤ (z.length : Int)) && decide ((z.length : Int) ≤ 8)) && z.cps.toList.all small) = false
          rw [Bool.not_eq_true'] at hc
          rw [hc]
          rfl
        show Dl.Tl F2 y (.bool (wordD (.str z)))
        rw [e]
        exact t2
      · rw [Bool.not_eq_false'] at hc
        refine Dl.s_ret (F := F1) (Dl.call (Dl.cons (Dl.is_ (Dl.lcS (fun _ => true) (fun i => .bool (small (z.cps.toList.getD i 0))) (Dl.var rfl (hx.mono s1.f)) (by show z.length ≤ 40000; omega) (fun _ => rfl) (fun _ _ _ _ _ => Dl.tyes) (fun i c G eg hi _ => Dl.is_ (Dl.op (Dl.var rfl (.str _)) Dl.str Dl.inSign) (by
            have e : z.cps.toList.getD i 0 = c := by
              rw [List.getD_eq_getElem?_getD, Array.getElem?_toList, hi]
              rfl
            rw [e]
            rfl))) (d := .list ((z.cps.toList.map small).map PyData.bool)) (congrArg PyData.list (by
              rw [← Array.length_toList]
              exact Dl.kept_bools small _ _ fun i c hi => by
                rw [List.getD_eq_getElem?_getD, hi]
                rfl))) Dl.nil) Dl.all) s1.i fun y F2 H2 s2 t2 => q y F2 H2 (s1.trans s2) ?_
        have e : wordD (.str z) = (z.cps.toList.map small).all id := by
          show ((decide (1 ≤ (z.length : Int)) && decide ((z.length : Int) ≤ 8)) && z.cps.toList.all small) = _
          rw [hc, List.all_map]
          rfl
        show Dl.Tl F2 y (.bool (wordD (.str z)))
        rw [e]
        exact t2
end
end Lw
set_option Elab.async false
set_option linter.all false
set_option maxRecDepth 100000
set_option maxHeartbeats 4000000
namespace Lw
open PySem PySem.Spec PyProof.Rows L2
theorem scKinds : FnScope ["value", "least", "most", "kind"] ["value", "least", "most"] (defScope sKinds) := ⟨rfl, rfl, rfl, by decide +kernel, rfl, by decide +kernel, by decide +kernel⟩
theorem scItem : FnScope ["value", "name", "kind", "slots"] ["value"] (defScope sItem) := ⟨rfl, rfl, rfl, by decide +kernel, rfl, by decide +kernel, by decide +kernel⟩
/-- a tuple of words, of a length within bounds -/
def kindsD (lo hi : Int) : PyData → Bool
  | .tuple ds => (decide (lo ≤ (ds.length : Int)) && decide ((ds.length : Int) ≤ hi)) && ds.all wordD
  | _ => false
def itemD : PyData → Bool
  | .tuple [a, b, c] => wordD a && (wordD b && kindsD 0 4 c)
  | _ => false
abbrev spKinds : Sp := Dl.spF (fun ds => ∃ d lo hi, ds = [d, .int lo, .int hi] ∧ Dl.fit d = true) fun ds => match ds with
  | [d, .int lo, .int hi] => .bool (kindsD lo hi d)
  | _ => .none
abbrev spItem : Sp := Dl.spF (fun ds => ∃ d, ds = [d] ∧ Dl.fit d = true) fun ds => .bool (itemD (ds.getD 0 .none))
section
variable {P : Program} {w : World} {K : PySem.W.Frag} {mg : Str → Option Value} {base : Heap}
theorem int_shaped (i : Int) : SeqAt.shaped (.int i) = true := rfl
theorem ok_kinds {f fW : Addr} {fd fdW : FuncData} (F : Fun K "is_tuple_of_kinds" "is_tuple_of_kinds" sKinds f fd) (FW : Fun K "is_word" "is_word" sWord fW fdW) (bW : Binds K fdW ["value"] []) (gW : mg "is_word" = some (.ref fW)) (GW : FnOk P w K mg base CX0 1 fW fdW ["value"] spWord)
    (mi : mg "isinstance" = none) (mt : mg "tuple" = none) (ml : mg "len" = none) (ma : mg "all" = none) :
    FnOk P w K mg base CX0 3 f fd ["value", "least", "most"] spKinds := by
  refine F.ok scKinds (fun vs H Q E h => ?_) (fun cdv A outer s H vs Q E hr h => ?_)
  · obtain ⟨F, ds, _, ht, ⟨d, lo, hi, rfl, _⟩, _⟩ := h
    exact ht.length
  · obtain ⟨F, ds, b, ht, ⟨d, lo, hi, rfl, hd⟩, q⟩ := h
    have nd := scKinds.nd
    have hr1 : Room 1 (A.deeper (envOfC "is_tuple_of_kinds" (defScope sKinds) s.heap.objs.size f cdv)) := hr.mono (by decide)
    refine ⟨_, pss_cons (ps_if (PW.pt (pw_or (pt_not (pt_val (pe_callB call_isi (by rfl) mi (by decide +kernel) (pa_cons (pv 0) (pa_cons (pe_bltn (v := .ty "tuple") (by rfl) mt (by decide +kernel) rfl) pa_nil)))))
        (pw_or1 (pt_not (pt_chain op_le op_le (pv 1) (pe_callB call_len (by rfl) ml PySem.boot_len (pa_cons (pv 0) pa_nil)) (pv 2)))))) (pss_one (ps_ret pe_bl)) pss_nil)
      (pss_one (ps_ret (pe_callB (cr_all rfl) (by rfl) ma (by decide +kernel) (pa_cons (pe_lc (own := [("kind", 3)]) (g := gName 3) (tt := tYes) (te := tCall spWord [] E0 (tCons (tVar 3) tNil)) (by rfl) nd (pi_tup (pv 0))
        (blkOk_by (own := [("kind", 3)]) (N := ["value", "least", "most", "kind"]) (sc := defScope sKinds) (by decide +kernel))
        (fun _ _ _ _ _ => pg_name (i := 3) nd rfl (.inl rfl)) (fun _ _ _ _ _ => pts_nil) (fun _ _ _ _ _ => pe_call GW hr1 (by rfl) gW FW.kp bW .nil pass0 (pa_cons (pv 3) pa_nil))) pa_nil)))), ?_⟩
    cases ht with
    | @cons x _ _ _ hx tl =>
    cases tl with
    | @cons x1 _ _ _ hx1 tl =>
    cases tl with
    | @cons x2 _ _ _ hx2 tl =>
    cases tl
    have t1 : Dl.Tl F x1 (.int lo) := hx1
    have t2 : Dl.Tl F x2 (.int hi) := hx2
    cases hz : Dl.isTup d with
    | false =>
      refine Dl.q_when (F := F) (c := true) (Dl.tis (Dl.tor (Dl.tnot (Dl.testB (Dl.isi (Dl.var rfl hx) (Dl.kitTup d)))) (fun z => ?_) (b := false)) (by rw [hz]; rfl)) b (fun _ F1 H1 s1 => ?_) (fun z => Bool.noConfusion z)
      · rw [hz] at z
        cases z
      · refine Dl.s_ret (F := F1) Dl.bl s1.i fun y F2 H2 s2 t2 => q y F2 H2 (s1.trans s2) ?_
        have e : kindsD lo hi d = false := by
          cases d <;> first | rfl | cases hz
        show Dl.Tl F2 y (.bool (kindsD lo hi d))
        rw [e]
        exact t2
    | true =>
      cases d <;> try cases hz
      rename_i xs
      have hl := (Dl.fit_tup hd).1
      refine Dl.q_when (F := F) (c := !(decide (lo ≤ (xs.length : Int)) && decide ((xs.length : Int) ≤ hi))) (Dl.tis (Dl.tor (Dl.tnot (Dl.testB (Dl.isi (Dl.var rfl hx) (Dl.kitTup _)))) (fun _ => Dl.tnot (Dl.test (Dl.chain (Dl.var rfl t1) (Dl.call (Dl.cons (Dl.var rfl hx) Dl.nil) (Dl.len (n := xs.length) rfl)) Dl.rI0b (fun _ => Dl.var rfl t2) (fun _ => Dl.rI0b))))) rfl) b (fun hc F1 H1 s1 => ?_) (fun hc F1 H1 s1 => ?_)
      · refine Dl.s_ret (F := F1) Dl.bl s1.i fun y F2 H2 s2 t2 => q y F2 H2 (s1.trans s2) ?_
        have e : kindsD lo hi (.tuple xs) = false := by
          show ((decide (lo ≤ (xs.length : Int)) && decide ((xs.length : Int) ≤ hi)) && xs.all wordD) = false
          rw [Bool.not_eq_true'] at hc
          rw [hc]
          rfl
        show Dl.Tl F2 y (.bool (kindsD lo hi (.tuple xs)))
        rw [e]
        exact t2
      · rw [Bool.not_eq_false'] at hc
        refine Dl.s_ret (F := F1) (Dl.call (Dl.cons (Dl.is_ (Dl.lcT (ds := xs) (fun _ => true) (fun i => .bool (wordD (xs.getD i .none))) (Dl.var rfl (hx.mono s1.f)) (by omega) (fun _ => rfl) (fun _ _ _ _ _ _ _ => Dl.tyes) (fun i x d G eg hi hx _ => Dl.is_ (Dl.callF (Dl.cons (Dl.var rfl hx) Dl.nil) ⟨d, rfl, Dl.fits_at (Dl.fit_tup hd).2 hi⟩) (by
            have e : xs.getD i .none = d := by
              rw [List.getD_eq_getElem?_getD, hi]
              rfl
            rw [e]
            rfl))) (d := .list ((xs.map wordD).map PyData.bool)) (congrArg PyData.list (Dl.kept_bools wordD _ _ fun i c hi => by
                rw [List.getD_eq_getElem?_getD, hi]
                rfl))) Dl.nil) Dl.all) s1.i fun y F2 H2 s2 t2 => q y F2 H2 (s1.trans s2) ?_
        have e : kindsD lo hi (.tuple xs) = (xs.map wordD).all id := by
          show ((decide (lo ≤ (xs.length : Int)) && decide ((xs.length : Int) ≤ hi)) && xs.all wordD) = _
          rw [hc, List.all_map]
          rfl
        show Dl.Tl F2 y (.bool (kindsD lo hi (.tuple xs)))
        rw [e]
        exact t2
theorem ok_item {f fW fT : Addr} {fd fdW fdT : FuncData} (F : Fun K "is_item" "is_item" sItem f fd) (FW : Fun K "is_word" "is_word" sWord fW fdW) (bW : Binds K fdW ["value"] []) (gW : mg "is_word" = some (.ref fW)) (GW : FnOk P w K mg base CX0 1 fW fdW ["value"] spWord)
    (FT : Fun K "is_tuple_of_kinds" "is_tuple_of_kinds" sKinds fT fdT) (bT : Binds K fdT ["value", "least", "most"] []) (gT : mg "is_tuple_of_kinds" = some (.ref fT)) (GT : FnOk P w K mg base CX0 3 fT fdT ["value", "least", "most"] spKinds)
    (mi : mg "isinstance" = none) (mt : mg "tuple" = none) (ml : mg "len" = none) (g4 : GlI mg "MAX_SLOTS" 4) :
    FnOk P w K mg base CX0 4 f fd ["value"] spItem := by
  refine F.ok scItem (fun vs H Q E h => ?_) (fun cdv A outer s H vs Q E hr h => ?_)
  · obtain ⟨F, ds, _, ht, ⟨d, rfl, _⟩, _⟩ := h
    exact ht.length
  · obtain ⟨F, ds, b, ht, ⟨d, rfl, hd⟩, q⟩ := h
    have nd := scItem.nd
    have hr1 : Room 1 (A.deeper (envOfC "is_item" (defScope sItem) s.heap.objs.size f cdv)) := hr.mono (by decide)
    refine ⟨_, pss_cons (ps_if (PW.pt (pw_or (pt_not (pt_val (pe_callB call_isi (by rfl) mi (by decide +kernel) (pa_cons (pv 0) (pa_cons (pe_bltn (v := .ty "tuple") (by rfl) mt (by decide +kernel) rfl) pa_nil)))))
        (pw_or1 (pt_cmpR (op_neD hr.units) (pe_callB call_len (by rfl) ml PySem.boot_len (pa_cons (pv 0) pa_nil)) pe_int (nomark _))))) (pss_one (ps_ret pe_bl)) pss_nil)
      (pss_cons (ps_asg (pv 0) (pg_tup rfl (pgs_cons (pg_name (i := 1) nd rfl (.inl rfl)) (pgs_cons (pg_name (i := 2) nd rfl (.inl rfl)) (pgs_cons (pg_name (i := 3) nd rfl (.inl rfl)) pgs_nil)))))
      (pss_one (ps_ret (pe_and (pe_call GW hr1 (by rfl) gW FW.kp bW .nil pass0 (pa_cons (pv 1) pa_nil)) (pe_and (pe_call GW hr1 (by rfl) gW FW.kp bW .nil pass0 (pa_cons (pv 2) pa_nil))
        (pe_one (pe_call GT hr (by rfl) gT FT.kp bT .nil pass0 (pa_cons (pv 3) (pa_cons pe_int (pa_cons (pe_globI (by rfl) g4) pa_nil)))))))))), ?_⟩
    cases ht with
    | @cons x _ _ _ hx tl =>
    cases tl
    cases hz : Dl.isTup d with
    | false =>
      refine Dl.q_when (F := F) (c := true) (Dl.tis (Dl.tor (Dl.tnot (Dl.testB (Dl.isi (Dl.var rfl hx) (Dl.kitTup d)))) (fun z => ?_) (b := false)) (by rw [hz]; rfl)) b (fun _ F1 H1 s1 => ?_) (fun z => Bool.noConfusion z)
      · rw [hz] at z
        cases z
      · refine Dl.s_ret (F := F1) Dl.bl s1.i fun y F2 H2 s2 t2 => q y F2 H2 (s1.trans s2) ?_
        have e : itemD d = false := by
          cases d <;> first | rfl | cases hz
        show Dl.Tl F2 y (.bool (itemD d))
        rw [e]
        exact t2
    | true =>
      cases d <;> try cases hz
      rename_i xs
      have hl := (Dl.fit_tup hd).1
      refine Dl.q_when (F := F) (c := !(decide ((xs.length : Int) = 3))) (Dl.tis (Dl.tor (Dl.tnot (Dl.testB (Dl.isi (Dl.var rfl hx) (Dl.kitTup _)))) (fun _ => Dl.test (Dl.op (Dl.call (Dl.cons (Dl.var rfl hx) Dl.nil) (Dl.len (n := xs.length) rfl)) Dl.int (Dl.neD (int_shaped _) (int_shaped _))))) (by
          simp only [PyData.eqv, Dl.isTup, Bool.not_true, Bool.false_or]
          exact congrArg Bool.not (by rw [Bool.eq_iff_iff, beq_iff_eq, decide_eq_true_iff]))) b (fun hc F1 H1 s1 => ?_) (fun hc F1 H1 s1 => ?_)
      · have h3 : ¬ xs.length = 3 := by
          intro z
          rw [z] at hc
          cases hc
        refine Dl.s_ret (F := F1) Dl.bl s1.i fun y F2 H2 s2 t2 => q y F2 H2 (s1.trans s2) ?_
        have e : itemD (.tuple xs) = false := by
          match xs, h3 with
          | [], _ => rfl
          | [_], _ => rfl
          | [_, _], _ => rfl
          | [_, _, _], h => exact absurd rfl h
          | _ :: _ :: _ :: _ :: _, _ => rfl
        show Dl.Tl F2 y (.bool (itemD (.tuple xs)))
        rw [e]
        exact t2
      · have h3 : xs.length = 3 := by
          rw [Bool.not_eq_false'] at hc
          have z := of_decide_eq_true hc
          omega
        obtain ⟨a, b', c, rfl⟩ : ∃ a b c, xs = [a, b, c] := by
          match xs, h3 with
          | [a, b, c], _ => exact ⟨a, b, c, rfl⟩
        have hf := (Dl.fit_tup hd).2
        refine Dl.q_tup (F := F1) (Dl.var rfl (hx.mono s1.f)) rfl s1.i fun vs F2 H2 s2 hvs => ?_
        cases hvs with
        | @cons v1 _ _ _ hv1 tl =>
        cases tl with
        | @cons v2 _ _ _ hv2 tl =>
        cases tl with
        | @cons v3 _ _ _ hv3 tl =>
        cases tl
        refine ⟨_, _, rfl, _, _, rfl, _, _, rfl, rfl, ?_⟩
        refine Dl.s_ret (F := F2) (Dl.andV (Dl.callF (Dl.cons (Dl.var rfl hv1) Dl.nil) ⟨_, rfl, Dl.fits_at (i := 0) hf rfl⟩) (fun _ => Dl.andV (Dl.callF (Dl.cons (Dl.var rfl hv2) Dl.nil) ⟨_, rfl, Dl.fits_at (i := 1) hf rfl⟩) (fun _ => Dl.callF (Dl.cons (Dl.var rfl hv3) (Dl.cons Dl.int (Dl.cons Dl.int Dl.nil))) ⟨_, _, _, rfl, Dl.fits_at (i := 2) hf rfl⟩))) s2.i fun y F3 H3 s3 t3 => q y F3 H3 ((s1.trans s2).trans s3) t3
end
end Lw
set_option Elab.async false
set_option linter.all false
set_option maxRecDepth 100000
set_option maxHeartbeats 4000000
namespace Dl
open PySem PySem.Spec PyProof.Rows L2
def isNon : D → Bool
  | .none => true
  | _ => false
theorem notN {σ : L2.St} {F : Hp} {te : TE} {d : D} (h : Ev te σ F d) : EvT (tB (tNotN te)) σ F (!isNon d) := fun F1 H1 a i Q q => h F1 H1 a i _ fun x F2 H2 s hx => by
  cases hx <;> exact ⟨_, rfl, q F2 H2 s⟩
end Dl
namespace Lw
open PySem PySem.Spec PyProof.Rows L2
theorem scBad : FnScope ["items", "previous", "index", "item"] ["items"] (defScope sBad) := ⟨rfl, rfl, rfl, by decide +kernel, rfl, by decide +kernel, by decide +kernel⟩
/-- the first part of an item, its name -/
def nameD : PyData → Str
  | .tuple (.str z :: _) => z
  | _ => ""
def prevD (ds : List PyData) : Nat → Str
  | 0 => ""
  | i + 1 => nameD (ds.getD i .none)
def okAt (ds : List PyData) (i : Nat) : Bool := itemD (ds.getD i .none) && decide ((prevD ds i).cps.toList < (nameD (ds.getD i .none)).cps.toList)
def badD (ds : List PyData) : PyData := match (List.range ds.length).find? fun i => !okAt ds i with
  | some i => .int (i : Int)
  | none => .none
theorem bad_at {ds : List PyData} {i : Nat} (hi : i < ds.length) (h0 : ∀ j, j < i → okAt ds j = true) (h1 : okAt ds i = false) : badD ds = .int (i : Int) := by
  have e : (List.range ds.length).find? (fun i => !okAt ds i) = some i := by
    rw [List.find?_range_eq_some]
    exact ⟨by rw [h1]; rfl, List.mem_range.mpr hi, fun j hj => by rw [h0 j hj]; rfl⟩
  unfold badD
  rw [e]
theorem bad_none {ds : List PyData} (h0 : ∀ j, j < ds.length → okAt ds j = true) : badD ds = .none := by
  have e : (List.range ds.length).find? (fun i => !okAt ds i) = none := by
    rw [List.find?_eq_none]
    intro j hj
    rw [h0 j (List.mem_range.mp hj)]
    exact Bool.false_ne_true
  unfold badD
  rw [e]
theorem item_name {d : PyData} (h : itemD d = true) : ∃ ds, d = .tuple (.str (nameD d) :: ds) := by
  unfold itemD at h
  split at h
  · rename_i a b c
    have ha := (Bool.and_eq_true_iff.mp h).1
    cases a <;> try cases ha
    rename_i z
    exact ⟨[b, c], rfl⟩
  · cases h
abbrev spBad : Sp := Dl.spF (fun ds => ∃ xs, ds = [.list xs] ∧ Dl.fit (.list xs) = true) fun ds => match ds with
  | [.list xs] => badD xs
  | _ => .none
section
variable {P : Program} {w : World} {K : PySem.W.Frag} {mg : Str → Option Value} {base : Heap}
theorem ok_bad {f fI : Addr} {fd fdI : FuncData} (F : Fun K "index_of_bad_item" "index_of_bad_item" sBad f fd) (FI : Fun K "is_item" "is_item" sItem fI fdI) (bI : Binds K fdI ["value"] []) (gI : mg "is_item" = some (.ref fI)) (GI : FnOk P w K mg base CX0 4 fI fdI ["value"] spItem)
    (me : mg "enumerate" = none) : FnOk P w K mg base CX0 5 f fd ["items"] spBad := by
  refine F.ok scBad (fun vs H Q E h => ?_) (fun cdv A outer s H vs Q E hr h => ?_)
  · obtain ⟨F, ds, _, ht, ⟨xs, rfl, _⟩, _⟩ := h
    exact ht.length
  · obtain ⟨F, ds, b, ht, ⟨ds, rfl, hd⟩, q⟩ := h
    have nd := scBad.nd
    refine ⟨_, pss_cons (ps_set (i := 1) nd rfl (.inl rfl) pe_str)
      (pss_cons (ps_for PassesOwn.never rfl (pi_enum (by rfl) me (pa_cons (pv 0) pa_nil)) (pg_tup rfl (pgs_cons (pg_name (i := 2) nd rfl (.inl rfl)) (pgs_cons (pg_name (i := 3) nd rfl (.inl rfl)) pgs_nil)))
        (pss_cons (ps_if (PW.pt (pw_or (pt_not (pt_val (pe_call GI hr (by rfl) gI FI.kp bI .nil pass0 (pa_cons (pv 3) pa_nil)))) (pw_or1 (pt_cmpR op_le_str (pe_ix ix_tup (pv 3) pe_int (fun _ _ => rfl)) (pv 1) (nomark _))))) (pss_one (ps_ret (pv 2))) pss_nil)
          (pss_one (ps_set (i := 1) nd rfl (.inl rfl) (pe_ix ix_tup (pv 3) pe_int (fun _ _ => rfl))))))
      (pss_one (ps_ret pe_non))), ?_⟩
    cases ht with
    | @cons x _ _ _ hx tl =>
    cases tl
    cases hx with
    | @lst l xs _ h1 t1 =>
    obtain ⟨hl, hf⟩ := Dl.fit_lst hd
    have hxl := t1.length
    have hl1 : H l = some (.lst xs) := b _ _ h1
    refine Dl.q_asg (F := F) Dl.str b fun v0 F0 H0 s0 t0 => ?_
    refine ⟨_, rfl, l, xs, rfl, .inl (.inl (s0.h _ _ hl1)), ?_⟩
    refine for_it (walk_enum (K := K) (a := l) (xs := xs)) (fun i σ H' => ∃ F' vp y2 y3, σ = [some (.ref l), some vp, y2, y3] ∧ Dl.Stp F H F' H' ∧ Dl.Tl F' vp (.str (prevD ds i)) ∧ ∀ j, j < i → okAt ds j = true) ⟨F0, v0, none, none, rfl, s0, t0, fun j hj => absurd hj (Nat.not_lt_zero j)⟩ (fun i σ H' _ hP => ?_) (fun i v σ H' H'' hi hP hy => ?_) (fun σ H' hP => ?_)
    · obtain ⟨F', vp, y2, y3, rfl, s', _⟩ := hP
      exact .inl (.inl (s'.h _ _ hl1))
    · obtain ⟨F', vp, y2, y3, rfl, s', tp, hok⟩ := hP
      obtain ⟨T, vi, vx, rfl, hT, rfl, hvi, hvx⟩ := hy
      have hvi' : V.int (i : Nat) = vi := Option.some.inj hvi
      subst hvi'
      have s1 : Dl.Stp F H F' (upd H' T (.tup [V.int (i : Nat), vx])) := s'.trans (.hid s'.i hT)
      obtain ⟨d, hdi, td⟩ := t1.getV hvx
      have td1 := td.mono s'.f
      have gd : ds.getD i .none = d := by
        rw [List.getD_eq_getElem?_getD, hdi]
        rfl
      refine ⟨T, _, rfl, .inl (.inl upd_same), rfl, _, _, rfl, _, _, rfl, rfl, ?_⟩
      have ec : okAt ds i = (itemD d && decide ((prevD ds i).cps.toList < (nameD d).cps.toList)) := by
        unfold okAt
        rw [gd]
      refine Dl.q_when (F := F') (c := !okAt ds i) (Dl.tis (Dl.tor (Dl.tnot (Dl.testB (Dl.callF (Dl.cons (Dl.var rfl td1) Dl.nil) ⟨d, rfl, Dl.fits_at hf hdi⟩))) (fun hit => ?_) (b := !decide ((prevD ds i).cps.toList < (nameD d).cps.toList))) (by
          rw [ec]
          show (!(itemD d) || _) = _
          cases itemD d <;> rfl)) s1.i (fun hc F1 H1 s2 => ?_) (fun hc F1 H1 s2 => ?_)
      · have hit' : itemD d = true := by
          replace hit : (!(itemD d)) = false := hit
          rw [Bool.not_eq_false'] at hit
          exact hit
        obtain ⟨es, he⟩ := item_name hit'
        generalize nameD d = z at he ⊢
        subst he
        exact Dl.test (Dl.op (Dl.op (Dl.var rfl td1) Dl.int (Dl.ixT (i := 0) rfl)) (Dl.var rfl tp) Dl.leStr)
      · rw [Bool.not_eq_true'] at hc
        refine Dl.s_ret (F := F1) (Dl.var rfl (.int (i : Int))) s2.i fun y F2 H2 s3 t3 => q y F2 H2 ((s1.trans s2).trans s3) ?_
        show Dl.Tl F2 y (badD ds)
        rw [bad_at (by omega) hok hc]
        exact t3
      · rw [Bool.not_eq_false'] at hc
        have hit' : itemD d = true := by
          rw [ec] at hc
          exact (Bool.and_eq_true_iff.mp hc).1
        obtain ⟨es, he⟩ := item_name hit'
        have en : prevD ds (i + 1) = nameD d := by
          show nameD (ds.getD i .none) = _
          rw [gd]
        generalize nameD d = z at he en
        subst he
        refine Dl.s_asg (F := F1) (Dl.op (Dl.var rfl (td1.mono s2.f)) Dl.int (Dl.ixT (i := 0) rfl)) s2.i fun y F2 H2 s3 t3 => ?_
        refine ⟨F2, y, _, _, rfl, (s1.trans s2).trans s3, ?_, fun j hj => ?_⟩
        · rw [en]
          exact t3
        · rcases Nat.lt_succ_iff_lt_or_eq.mp hj with h | h
          · exact hok j h
          · rw [h]
            exact hc
    · obtain ⟨F', vp, y2, y3, rfl, s', tp, hok⟩ := hP
      have q' : ∀ y F2 H2, Dl.Stp F' H' F2 H2 → Dl.Tl F2 y .none → Q y H2 := fun y F2 H2 s3 t3 => q y F2 H2 (s'.trans s3) (by
        show Dl.Tl F2 y (badD ds)
        rw [bad_none fun j hj => hok j (by omega)]
        exact t3)
      exact q' _ F' H' (.refl s'.i) .non
end
end Lw
set_option Elab.async false
set_option linter.all false
set_option maxRecDepth 100000
set_option maxHeartbeats 4000000
/-! sets of texts: set(xs) of a list of texts, sorted(..) and len(..) of it -/
namespace SetS
open PySem PySem.Spec PyProof.Rows L2
abbrev tK (P : Program) (w : World) := PySem.strKind P w
abbrev nb (w : World) : Obj := { cls := .type "set", dict := none, data := .set #[] 0 (.fresh 0 0 (!w.params.followText "set-order")) }
def keyT (e : Int × Value) : Str := strOf e.2
def IsTx (w : World) (e : Int × Value) : Prop := ∃ z tk, e.2 = Value.str z tk ∧ e.1 = hashStr w z
/-- at a a set whose members are those of xs, c of them -/
def Txt (w : World) (a : Addr) (xs : List Str) (c : Nat) (h : Heap) : Prop :=
  ∃ o es ep t, h.get? a = some o ∧ (o.ExactSet ∧ o.data = .set es ep t) ∧ (∀ e ∈ es.toList, IsTx w e) ∧ (es.toList.map keyT).Nodup ∧ (∀ z, z ∈ xs ↔ z ∈ es.toList.map keyT) ∧ es.size = c ∧ t.fits es.size = true ∧
    Ris t.place.toList ∧ (w.params.followText "set-order" = true ∨ t.led = true)
section
variable {P : Program} {w : World} {a : Addr} {xs : List Str} {c : Nat}
theorem Txt.keep {h h' : Heap} (R : Txt w a xs c h) (k : ∀ o, h.get? a = some o → h'.get? a = some o) : Txt w a xs c h' := let ⟨o, es, ep, t, p1, r⟩ := R; ⟨o, es, ep, t, k o p1, r⟩
theorem tx_is {e : Int × Value} (g : IsTx w e) (z : Str) : (tK P w).is z e.2 = true ↔ keyT e = z := by
  obtain ⟨y, tk, q, _⟩ := g
  unfold keyT
  rw [q]
  exact ⟨fun m => (tK P w).inj _ _ _ (strKind_is P w y tk) m, fun m => m ▸ strKind_is P w y tk⟩
theorem tx_els {l : List (Int × Value)} (g : ∀ e ∈ l, IsTx w e) : ElemsOf (tK P w) l := fun e m => by
  obtain ⟨z, tk, q1, q2⟩ := g e m
  exact ⟨⟨z, q1 ▸ strKind_is P w z tk, q2⟩, by rw [q1]; rfl⟩
theorem tx_mem {l : List (Int × Value)} (g : ∀ e ∈ l, IsTx w e) (z : Str) : z ∈ l.map keyT ↔ ∃ e ∈ l, (tK P w).is z e.2 = true :=
  List.mem_map.trans ⟨fun ⟨e, m, q⟩ => ⟨e, m, (tx_is (g e m) z).2 q⟩, fun ⟨e, m, q⟩ => ⟨e, m, (tx_is (g e m) z).1 q⟩⟩
theorem tx_fresh {h : Heap} (p1 : h.get? a = some (nb w)) : Txt w a [] 0 h :=
  ⟨_, #[], 0, _, p1, ⟨⟨rfl, rfl, rfl⟩, rfl⟩, fun e m => (by cases m), List.nodup_nil, fun z => Iff.rfl, rfl, rfl, List.Pairwise.nil, by
    rcases Bool.eq_false_or_eq_true (w.params.followText "set-order") with q | q
    · exact .inl q
    · exact .inr (by show (!w.params.followText "set-order") = true; rw [q]; rfl)⟩
end
section
variable {P : Program} {w : World} {A : Around} {E : Value → Shared → Prop} {s : Shared} {a : Addr} {xs : List Str} {c : Nat}
theorem gave_on (b : Bool) {s1 : Shared} {Q : Unit → Shared → Prop} (q : Q () s1) : wpAny (model P w) A (match b with | true => rule "set.scan.the-table-gave-way" | false => pure ()) Q E s1 := by
  cases b
  · exact wpAny_pure q
  · exact wpAny_rule q
theorem tx_tail {g : Bool → Sem Unit} (gq : ∀ (b : Bool) (s1 : Shared) (Q : Unit → Shared → Prop), Q () s1 → wpAny (model P w) A (g b) Q E s1) {o : Obj} {es es1 : Array (Int × Value)} {ep : Nat} {t t2 : SetTable} {ys : List Str}
    (p1 : s.heap.get? a = some o) (p2 : o.ExactSet) (p3 : o.data = .set es ep t) (g1 : ∀ e ∈ es1.toList, IsTx w e) (n1 : (es1.toList.map keyT).Nodup) (m1 : ∀ z, z ∈ ys ↔ z ∈ es1.toList.map keyT) (room : es1.size < scanBound)
    (f2 : t2.fits es1.size = true) (r2 : Ris t2.place.toList) (l2 : w.params.followText "set-order" = true ∨ t2.led = true) {dm : Bool} {R : Option Bool → Shared → Prop}
    (fin : ∀ h', Heap.SameBut a s.heap h' → Txt w a ys es1.size h' → R (some true) { s with heap := h' }) :
    wpAny (model P w) A (do
      storeSet a es1 t2
      if (!dm && t2.tooFull) = true then do
        g (relayAll t2 es1 (SetTable.grown es1.size)).2.2
        storeSet a (relayAll t2 es1 (SetTable.grown es1.size)).1 (relayAll t2 es1 (SetTable.grown es1.size)).2.1
        pure (some true)
      else pure (some true)) R E s := by
  refine wpAny_bind (wpAny_storeSet_of p1 p3 ?_ (fits_of_scanBound room))
  have p1' := store_at (es' := es1) (t' := t2) p1 p3
  have b1 := Heap.SameBut.update s.heap a (Obj.putSet es1 t2)
  by_cases full : (!dm && t2.tooFull) = true
  · rw [if_pos full]
    have y1 := relayAll_perm t2 es1 (SetTable.grown es1.size)
    have y2 := relayAll_fits t2 es1 (SetTable.grown es1.size)
    have y3 := relayAll_ris t2 es1 (SetTable.grown es1.size)
    have y4 := relayAll_led t2 es1 (SetTable.grown es1.size)
    generalize relayAll t2 es1 (SetTable.grown es1.size) = Y at y1 y2 y3 y4 ⊢
    obtain ⟨es2, t3, gv⟩ := Y
    dsimp only at y1 y2 y3 y4 ⊢
    have z2 : es2.size = es1.size := by rw [← Array.length_toList, y1.length_eq, Array.length_toList]
    refine wpAny_bind (gq _ _ _ (wpAny_bind (wpAny_storeSet_of p1' rfl ?_ (fits_of_scanBound (by rw [z2]; exact room)))))
    exact wpAny_pure (fin _ (b1.trans (Heap.SameBut.update _ a _)) ⟨_, es2, _, t3, store_at (es' := es2) (t' := t3) p1' rfl, ⟨p2, rfl⟩, fun e m => g1 e (y1.mem_iff.mp m), (y1.map keyT).nodup_iff.mpr n1, fun z => (m1 z).trans (y1.map keyT).mem_iff.symm, z2, y2, y3,
      l2.imp id fun q => by rw [y4]; exact q⟩)
  · rw [if_neg full]
    exact wpAny_pure (fin _ b1 ⟨_, es1, _, t2, p1', ⟨p2, rfl⟩, g1, n1, m1, rfl, f2, r2, l2⟩)
theorem tx_add {z : Str} {tk : Tok} {Q : Bool → Shared → Prop} (R : Txt w a xs c s.heap) (room : c + 1 < scanBound) (fin : ∀ h' c' b, Heap.SameBut a s.heap h' → c' ≤ c + 1 → Txt w a (xs ++ [z]) c' h' → Q b { s with heap := h' }) :
    wpAny (model P w) A (setAddHashed a (.str z tk) ((tK P w).hash z)) Q E s := by
  obtain ⟨o, es, ep, t, p1, ⟨p2, p3⟩, g, nd, hm, hn, hf, hr, hl⟩ := R
  have isz : (tK P w).is z (.str z tk) = true := strKind_is P w z tk
  have scz : (Value.str z tk).scannable = true := rfl
  have els : ElemsOf (tK P w) es.toList := tx_els g
  have bd : es.size < scanBound := by omega
  unfold setAddHashed setAddHashedIn
  refine wpAny_holding (wpAny_bind (wpAny_setState_of p1 p3 hf ?_))
  dsimp only
  rw [byScan_of scz bd els]
  simp only [↓reduceIte]
  unfold setAddByScan
  refine wpAny_bind (wpAny_bind (wpAny_rule (wpAny_bind (wpAny_setScan_of isz p1 p3 hf els ?_))))
  cases met : List.findIdx? (fun e => (tK P w).is z e.2) es.toList with
  | some j =>
    dsimp only
    obtain ⟨lj, ij, _⟩ := List.findIdx?_eq_some_iff_getElem.mp met
    have zin : z ∈ xs := (hm z).2 ((tx_mem (P := P) g z).2 ⟨es.toList[j], List.getElem_mem lj, ij⟩)
    exact wpAny_pure (wpAny_pure (fin s.heap c _ (Heap.SameBut.refl a s.heap) (Nat.le_succ c) ⟨o, es, ep, t, p1, ⟨p2, p3⟩, g, nd, fun y => by
      rw [List.mem_append, List.mem_singleton, ← hm y]
      exact ⟨fun q => q.elim id fun e => e ▸ zin, .inl⟩, hn, hf, hr, hl⟩))
  | none =>
    dsimp only
    have out : z ∉ es.toList.map keyT := fun q => by
      obtain ⟨e, m, i⟩ := (tx_mem (P := P) g z).1 q
      have no := List.findIdx?_eq_none_iff.mp met e m
      rw [i] at no
      cases no
    have y1 := layNew_perm t es ((tK P w).hash z) (.str z tk)
    have y2 := layNew_fits t es ((tK P w).hash z) (.str z tk)
    have y3 := layNew_ris t es ((tK P w).hash z) (.str z tk) hr
    have y4 := layNew_led t es ((tK P w).hash z) (.str z tk)
    generalize layNew t es ((tK P w).hash z) (.str z tk) = Y at y1 y2 y3 y4 ⊢
    obtain ⟨es1, t1, dm, gv⟩ := Y
    dsimp only at y1 y2 y3 y4 ⊢
    rw [Array.toList_push] at y1
    have pc : es1.toList.Perm (((tK P w).hash z, Value.str z tk) :: es.toList) := y1.trans (List.perm_append_singleton _ _)
    have pk : (es1.toList.map keyT).Perm (z :: es.toList.map keyT) := pc.map keyT
    have g1 : ∀ e ∈ es1.toList, IsTx w e := fun e m => (List.mem_cons.mp (pc.mem_iff.mp m)).elim (fun q => q ▸ ⟨z, tk, rfl, rfl⟩) (g e)
    have n1 : (es1.toList.map keyT).Nodup := pk.nodup_iff.mpr (List.nodup_cons.mpr ⟨out, nd⟩)
    have m1 : ∀ y, y ∈ xs ++ [z] ↔ y ∈ es1.toList.map keyT := fun y => by
      rw [List.mem_append, List.mem_singleton, hm y, pk.mem_iff, List.mem_cons]
      exact Or.comm
    have z1 : es1.size = c + 1 := by rw [← Array.length_toList, pc.length_eq, List.length_cons, Array.length_toList, hn]
    have room1 : es1.size < scanBound := by omega
    have led1 : w.params.followText "set-order" = true ∨ t1.led = true := hl.imp id fun q => by rw [y4]; exact q
    have fin1 : ∀ h' b, Heap.SameBut a s.heap h' → Txt w a (xs ++ [z]) es1.size h' → Q b { s with heap := h' } := fun h' b sb r => fin h' _ b sb (by omega) r
    refine wpAny_bind (gave_on _ ?_)
    split
    · refine wpAny_bind ?_
      rw [hashByValue_scannable 8 scz]
      refine wpAny_pure (tx_tail (fun b _ _ q => gave_on b q) p1 p2 p3 g1 n1 m1 room1 ?_ ?_ ?_ fun h' sb r => ?_)
      · first | (split <;> first | exact y2 | exact SetTable.fits_plain_off y2) | exact y2
      · first | (split <;> exact y3) | exact y3
      · first | (split <;> exact led1) | exact led1
      · dsimp only
        exact wpAny_pure (fin1 h' _ sb r)
    · refine wpAny_bind (wpAny_pure ?_)
      simp only [↓reduceIte]
      refine tx_tail (fun b _ _ q => gave_on b q) p1 p2 p3 g1 n1 m1 room1 y2 y3 led1 fun h' sb r => ?_
      dsimp only
      exact wpAny_pure (fin1 h' _ sb r)
end
end SetS
set_option Elab.async false
set_option linter.all false
set_option maxRecDepth 100000
set_option maxHeartbeats 4000000
namespace SetS
open PySem PySem.Spec PyProof.Rows L2
section
variable {P : Program} {w : World} {A : Around} {E : Value → Shared → Prop} {s : Shared}
/-- the loop that fills it -/
theorem tx_loop {I : Addr} {fp wr : List Addr} {G : Array GenState → Array GenState → Prop} {n : Nat} {Pv : Nat → Value → Prop} {St : Nat → Shared → Prop} {R : Result → Shared → Prop}
    (W : WalksS P w A.in1 I fp wr G n Pv St) (D : Addr) (dF : D ∉ fp) (xs : List Str) (en : n = xs.length) (few : xs.length + 1 < scanBound) (at_ : ∀ i v, Pv i v → ∃ z t, xs[i]? = some z ∧ v = .str z t) :
    ∀ (k i : Nat) (s : Shared), n - i = k → i ≤ n → St i s → (∃ c, c ≤ i ∧ Txt w D (xs.take i) c s.heap) → (∀ s' c, Moved (D :: wr) G s s' → c ≤ n → Txt w D xs c s'.heap → R (.ok (.ret .none)) s') →
      codeAny (model P w) A (.builtin "set.update.loop" ⟨[.ref D, .ref I], []⟩) R s := by
  have dW : D ∉ wr := fun m => dF (W.sub _ m)
  have sub : ∀ b ∈ wr, b ∈ D :: wr := fun b m => List.mem_cons_of_mem _ m
  intro k
  induction k with
  | zero =>
    intro i s ek li st ⟨c, lc, T⟩ fin
    obtain rfl : i = n := by omega
    refine codeAny_builtin F.entry_set_update_loop ?_
    rw [Around.under_plainId F.plain_set_update_loop _]
    show wpAny _ A.in1 (pyNext (.ref I) >>= _) _ _ s
    refine wpAny_bind (W.done s _ _ st fun s' mv => ?_); show wpAny _ A.in1 (ret Value.none) _ _ s'
    rw [List.take_of_length_le (by omega)] at T
    exact wpAny_pure (fin s' c (mv.mono sub) lc (T.keep fun o e => mv.heap D o dW e))
  | succ k ih =>
    intro i s ek li st ⟨c, lc, T⟩ fin
    have lt : i < n := by omega
    refine codeAny_builtin F.entry_set_update_loop ?_
    rw [Around.under_plainId F.plain_set_update_loop _]
    show wpAny _ A.in1 (pyNext (.ref I) >>= _) _ _ s
    refine wpAny_bind (W.item i s _ _ lt st fun v s' pv st' mv => ?_)
    obtain ⟨z, t, ez, rfl⟩ := at_ i v pv
    have T' : Txt w D (xs.take i) c s'.heap := T.keep fun o e => mv.heap D o dW e
    show wpAny _ A.in1 (holding [Value.str z t] (setAdd D (.str z t)) >>= _) _ _ s'
    refine wpAny_bind (wpAny_holding ?_); unfold setAdd
    refine wpAny_holding (wpAny_bind ((tK P w).pyHash (k := z) (strKind_is _ _ _ _) ?_))
    refine tx_add (s := { s' with toks := s'.toks + 1 }) T' (by omega) fun h' c' b sb lc' T2 => ?_
    have T3 : Txt w D (xs.take (i + 1)) c' h' := by
      rw [List.take_add_one, ez]
      exact T2
    refine wpAny_pure ⟨plainId_quiet F.plain_set_update_loop _, ih (i + 1) _ (by omega) lt (W.frame _ s' _ _ st' (Nat.le_succ _) fun b m o e => ?_) ⟨_, by omega, T3⟩ fun s2 c2 mv2 lc2 T4 => ?_⟩
    · rw [sb.2 b fun q => dF (q ▸ m)]
      exact e
    · refine fin s2 c2 (Moved.trans W.gtrans ((mv.mono sub).then_heap (Nat.le_succ _) fun b o m e => ?_) mv2) lc2 T4
      rw [sb.2 b fun q => m (by rw [q]; exact List.mem_cons_self)]
      exact e
theorem strs_get {us : List Value} {xs : List Str} (r : StrsAre us xs) : ∀ (i : Nat) (v : Value), us[i]? = some v → ∃ z t, xs[i]? = some z ∧ v = .str z t := by
  induction r with
  | nil => intro i v q; simp at q
  | cons y t r ih =>
    intro i v q
    cases i with
    | zero => exact ⟨y, t, rfl, (Option.some.inj q).symm⟩
    | succ i => exact ih i v (by simpa using q)
set_option maxHeartbeats 8000000 in
theorem tx_set {l : Addr} {items : Array Value} {xs : List Str} {Q : Value → Shared → Prop} (hh : A.handled = none) (il : s.heap.IsList l items) (ia : StrsAre items.toList xs) (few : xs.length + 1 < scanBound)
    (fin : ∀ (h' : Heap) (tk c : Nat), Txt w s.heap.objs.size xs c h' → c ≤ xs.length → (∀ b o, s.heap.get? b = some o → h'.get? b = some o) → Q (.ref s.heap.objs.size) { s with heap := h', toks := tk }) :
    wpAny (model P w) A (call (.type "set") [.ref l]) Q E s := by
  have sz : items.size = xs.length := by rw [← StrsAre.len_eq ia, Array.length_toList]
  obtain ⟨cc, tl, hmro⟩ := F.called_set.mro
  have made := F.called_set.made; have subs := F.called_set.sub
  refine wpAny_call (codeAny_of_tree ?_); show wpAny _ _ (callAny (.type "set") _) _ _ _
  refine wpAny_pure ⟨Code.quiet_builtin _ (by decide +kernel), codeAny_builtin F.entry_type_call ?_⟩; rw [Around.under_plain (weight_type_call_type "set" [.ref l] []) rfl]
  have f1 := F.called_set.notType; have f2 := F.called_set.canCreate; have f3 := F.typeCall_set_1 (.ref l)
  repeat (any_goals (first | assumption | wp_step))
  refine codeAny_mono (code_set_led1 (.ref l) (E := E) (Q₁ := fun obj s1 => obj = .ref s.heap.objs.size ∧ s1 = { s with heap := s.heap.push (nb w) }) ⟨rfl, rfl⟩) fun r s1 hr => ?_
  cases r with
  | error e => exact hr
  | ok fl =>
    cases fl with
    | ret obj =>
      obtain ⟨rfl, rfl⟩ := hr
      have isO : (s.heap.push (nb w)).get? s.heap.objs.size = some (nb w) := Heap.get?_push_size _ rfl
      have isT : Shared.TypeIs { s with heap := s.heap.push (nb w) } (.ref s.heap.objs.size) "set" := ⟨_, isO, rfl⟩
      have iLook := F.called_set.init.lookup; have iBind := F.called_set.init.bind (.ref s.heap.objs.size)
      repeat (any_goals (first | assumption | wp_step))
      refine codeAny_mono (codeAny_call_builtin (R := wants (fun r s2 => r = .none ∧ ∃ h' tk c, s2 = { s with heap := h', toks := tk } ∧ Txt w s.heap.objs.size xs c h' ∧ c ≤ xs.length ∧ (∀ b o, s.heap.get? b = some o → h'.get? b = some o)) E) F.called_set.init.plain F.entry_set_init (check_set_init_1 isT ?_)) fun r2 s2 hr2 => ?_
      · obtain ⟨ol, ho, hc, nl, hd⟩ := il
        obtain ⟨ocls, odict, odata, oslots⟩ := ol
        simp only at hc hd
        subst hc; subst hd
        have ho' : (s.heap.push (nb w)).get? l = some { cls := .type "list", dict := odict, data := .seq items nl, slots := oslots } := Heap.get?_push_of_some _ ho
        have n1 := F.sub_list_set; have n2 := F.sub_list_frozenset; have n3 : (Value.type "list" == Value.type "dict") = false := by decide
        have il1 : (s.heap.push (nb w)).IsList l items := ⟨_, ho', rfl, nl, rfl⟩
        unfold Builtin.«set.__init__» noKeywords Builtin.Frozenset.updateFrom; generalize hPI : pyIter = PI
        wp_walk
        subst hPI
        refine wpAny_pyIter_list il1 (wpAny_bind (wpAny_runValue ?_))
        have lS : l < s.heap.objs.size := Heap.lt_size ho
        have hh3 : A.in1.in1.in1.handled = none := by simp [hh]
        have sz1 : (s.heap.push (nb w)).objs.size = s.heap.objs.size + 1 := Heap.size_push ..
        have neI : l ≠ (s.heap.push (nb w)).objs.size := by
          rw [sz1]
          exact Nat.ne_of_lt (Nat.lt_succ_of_lt lS)
        have nF : s.heap.objs.size ∉ [(s.heap.push (nb w)).objs.size, l] := by
          simp only [List.mem_cons, List.mem_singleton, List.not_mem_nil, or_false, not_or]
          rw [sz1]
          exact ⟨Nat.ne_of_lt (Nat.lt_succ_self _), Nat.ne_of_gt lS⟩
        refine tx_loop ((Walks.list hh3 _ l neI items).toS) s.heap.objs.size nF xs sz few (fun i v q => strs_get ia i v (by rw [Array.getElem?_toList]; exact q)) (items.size - 0) 0 _ (by omega) (Nat.zero_le _) ⟨⟨_, Heap.get?_push_size _ rfl, rfl, rfl⟩, il1.push _⟩ ⟨0, Nat.le_refl 0, tx_fresh (Heap.get?_push_of_some _ isO)⟩ fun s' c' mv lc T => ?_
        obtain ⟨h', g2, d', tk', os'⟩ := s'
        obtain rfl : g2 = s.gens := mv.gens
        obtain rfl : d' = s.drawn := mv.drawn
        obtain rfl : os' = s.os := mv.os
        show wpAny _ _ _ _ _ _
        refine wpAny_pure ?_; show wpAny _ _ (ret Value.none) _ _ _
        refine wpAny_pure ⟨rfl, h', tk', c', rfl, T, by omega, fun b o e => ?_⟩
        have lb : b < s.heap.objs.size := Heap.lt_size e
        refine mv.heap b o ?_ (Heap.get?_push_of_some _ (Heap.get?_push_of_some _ e))
        simp only [List.mem_cons, List.mem_singleton, List.not_mem_nil, or_false, not_or]
        rw [sz1]
        exact ⟨Nat.ne_of_lt lb, Nat.ne_of_lt (Nat.lt_succ_of_lt lb)⟩
      · cases r2 with
        | error e => exact hr2
        | ok fl2 =>
          cases fl2 with
          | ret r =>
            obtain ⟨rfl, h', tk, c', rfl, T, lc, kp⟩ := hr2
            repeat (any_goals (first | assumption | wp_step))
            exact fin _ _ _ T lc kp
          | _ => exact hr2.elim
    | _ => exact hr.elim
end
end SetS
set_option Elab.async false
set_option linter.all false
set_option maxRecDepth 100000
set_option maxHeartbeats 4000000
namespace SetS
open PySem PySem.Spec PyProof.Rows L2
section
variable {P : Program} {w : World} {A : Around} {E : Value → Shared → Prop} {s : Shared} {a : Addr} {xs : List Str} {c : Nat}
/-- sorted(it) -/
theorem tx_sorted {Q : Value → Shared → Prop} (R : Txt w a xs c s.heap) (hh : A.handled = none) (few : c < scanBound)
    (fin : ∀ s' p (out : Array Value) (m : Nat) (zs : List Str), (∀ b o, s.heap.get? b = some o → s'.heap.get? b = some o) → s'.gens = s.gens → s'.os = s.os → s.heap.objs.size ≤ p → s'.heap.get? p = some (seqObj "list" out m) →
      StrsAre out.toList zs → sortedS zs = true → zs.Nodup → (∀ z, z ∈ zs ↔ z ∈ xs) → zs.length = c → Q (.ref p) s') :
    wpAny (model P w) A (call (.builtin "sorted") [.ref a]) Q E s := by
  obtain ⟨o, es, ep, t, p1, ⟨p2, p3⟩, g, nd, hm, hn, hf, hr, hl⟩ := R
  refine Calls.call_function_entry kind_sorted plain_sorted entry_sorted (args_sorted1 _) ?_
  unfold Builtin.«sorted»
  refine wpAny_bind (m := checkCount "sorted" 1 1 _) (wpAny_pure (wpAny_bind (collect_set (A := A.in1) hh ⟨o, p1, p2.1, p3⟩ hf (by omega) hr hl fun s1 vs k1 zl g1 o1 pm => ?_)))
  have vl : vs.length = c := by rw [pm.length_eq, List.length_map, Array.length_toList]; exact hn
  have vS : StrsAre vs (vs.map strOf) := strsAre_map vs fun v m => by
    obtain ⟨e, me, q⟩ := List.mem_map.mp (pm.mem_iff.mp m)
    obtain ⟨z, tk, q1, _⟩ := g e me
    exact ⟨z, tk, q ▸ q1⟩
  have pk : (vs.map strOf).Perm (es.toList.map keyT) := by
    have q := pm.map strOf
    rw [List.map_map] at q
    exact q
  have vL : vs.length ≤ sizeLine := by rw [vl]; exact fits_of_scanBound few
  refine wpAny_bind (wpAny_newList ?_ vL)
  have oL : (s1.heap.push (seqObj "list" vs.toArray 0)).get? s1.heap.objs.size = some (seqObj "list" vs.toArray 0) := Heap.get?_push_size _ rfl
  refine wpAny_bind (wpAny_holding (wpAny_call_entry slot_list_sort ⟨_, oL, rfl⟩ entry_list_sort (list_sort_treeKAny PyProof.Rows.strKind_oneLt oL vS.keysOf (fun v1 v2 rest e => keyKind_strs (by rw [← e]; exact vS)) vL fun st y1 y2 => ⟨_, rfl, ?_⟩) (args_list_sort _)))
  obtain ⟨zs, h1, h2, h3⟩ := sorted_out_str vS y1 y2
  generalize (arrOf st).map (·.2) = out at h1 ⊢
  obtain ⟨m, em⟩ := sortedHeap_at (vs := vs) (out := out) oL
  have pz : zs.Perm (es.toList.map keyT) := h2.trans pk
  refine wpAny_pure ⟨_, rfl, fin _ s1.heap.objs.size out m zs (fun b u e => ?_) g1 o1 zl em h1 h3 (pz.nodup_iff.mpr nd) (fun z => by rw [pz.mem_iff, ← hm z]) (by rw [pz.length_eq, List.length_map, Array.length_toList]; exact hn)⟩
  have q := k1 b u e
  have lt := Heap.lt_size q
  show (sortedHeap (s1.heap.push (seqObj "list" vs.toArray 0)) s1.heap.objs.size vs out).get? b = some u
  rw [sortedHeap_old (Nat.ne_of_lt lt) (by rw [size_push']; exact Nat.lt_succ_of_lt lt)]
  exact Heap.get?_push_of_some _ q
end
/-! as rules of calls -/
def TxO (w : World) (a : Addr) (xs : List Str) (c : Nat) : HO := .ext fun h => Txt w a xs c h
section
variable {X : Cx}
theorem txO_new {P : Program} {w : World} {H : Hp} {h : Heap} {a : Addr} {xs : List Str} {c : Nat} (R : Txt w a xs c h) : ObjOk P w H h a (TxO w a xs c) := by
  have ⟨o, _, _, _, p1, _⟩ := R
  exact ⟨R, ⟨o, p1⟩, fun h1 h2 p k => Txt.keep p k⟩
theorem txO_get {pins : List (Addr × Obj)} {σ : L2.St} {H : Hp} {s : Shared} {a : Addr} {xs : List Str} {c : Nat} (I : Inv X pins σ H s) (ha : H a = some (TxO X.w a xs c)) : Txt X.w a xs c s.heap := (I.hok a _ ha).1
/-- set(xs) -/
def rSetX (K : PySem.W.Frag) (w : World) : List V → Hp → VK → Prop := fun vs H Q => ∃ (l : Addr) (xs : List Str), vs = [V.ref l] ∧ SqL K H l (xs.map V.str) ∧ xs.length + 1 < scanBound ∧ ∀ a c, H a = none → c ≤ xs.length → Q (.ref a) (upd H a (TxO w a xs c))
theorem cr_setX (hc : X.calm = true) : CallR X (.type "set") (rSetX X.K X.w) := by
  intro pins s σ H vs us Q I r h
  obtain ⟨l, xs, rfl, hl, few, q⟩ := h
  rw [Vals.ref1 r]
  obtain ⟨its, rv, pl, _⟩ := I.list hl
  refine tx_set (w := X.w) (I.ok.hd hc) pl.isList (by simpa using strsAre_of rv) few fun h' tk c T lc kp => ?_
  exact ⟨.ref s.heap.objs.size, upd H s.heap.objs.size (TxO X.w s.heap.objs.size xs c), I.laid (t' := tk) kp (Nat.le_refl _) (txO_new T), rfl, q _ c (I.hok.fresh (Nat.le_refl _)) lc⟩
/-- sorted(set) -/
def rSortedX (w : World) : List V → Hp → VK → Prop := fun vs H Q => ∃ (a : Addr) (xs : List Str) (c : Nat), vs = [V.ref a] ∧ H a = some (TxO w a xs c) ∧ c < scanBound ∧
  ∀ (zs : List Str) (p : Addr), sortedS zs = true → zs.Nodup → (∀ z, z ∈ zs ↔ z ∈ xs) → zs.length = c → H p = none → Q (.ref p) (upd H p (.lst (zs.map V.str)))
theorem vals_strs : ∀ {us : List Value} {zs : List Str}, StrsAre us zs → Vals (zs.map V.str) us
  | _, _, .nil => .nil
  | _, _, .cons y t r => .cons ⟨t, rfl⟩ (vals_strs r)
theorem sh_same (s s' : Shared) (o : s'.os = s.os) : s' = { s with heap := s'.heap, gens := s'.gens, drawn := s'.drawn, toks := s'.toks } := by
  cases s'; cases s; cases o; rfl
theorem cr_sortedX (hc : X.calm = true) : CallR X (.builtin "sorted") (rSortedX X.w) := by
  intro pins s σ H vs us Q I r h
  obtain ⟨a, xs, c, rfl, ha, few, q⟩ := h
  rw [Vals.ref1 r]
  refine tx_sorted (txO_get I ha) (I.ok.hd hc) few fun s' p out m zs k g o hp hg hi hs hnd hm hl => ?_
  have len : (zs.map V.str).length ≤ sizeLine := by rw [List.length_map, hl]; exact fits_of_scanBound few
  have fresh : H p = none := I.hok.fresh hp
  have J : Inv X pins σ (upd H p (.lst (zs.map V.str))) { s with heap := s'.heap, gens := s'.gens, drawn := s'.drawn, toks := s'.toks } :=
    I.call (ch := []) (Un.laid k hp fresh) (I.hok.laid k hp ⟨len, out.toList, m, vals_strs hi, hg⟩) (by rw [g]; exact I.bare) (fun _ z => nomatch z)
  rw [sh_same s s' o]
  exact ⟨.ref p, _, J, rfl, q zs p hs hnd hm hl fresh⟩
/-- len(set) -/
def rLenX (w : World) : List V → Hp → VK → Prop := fun vs H Q => ∃ (a : Addr) (xs : List Str) (c : Nat), vs = [V.ref a] ∧ H a = some (TxO w a xs c) ∧ c < scanBound ∧ ((∃ zs : List Str, zs.Nodup ∧ (∀ z, z ∈ zs ↔ z ∈ xs) ∧ zs.length = c) → Q (.int c) H)
theorem cr_lenX : CallR X (.builtin "len") (rLenX X.w) := by
  intro pins s σ H vs us Q I r h
  obtain ⟨a, xs, c, rfl, ha, few, q⟩ := h
  rw [Vals.ref1 r]
  obtain ⟨o, es, ep, t, p1, ⟨p2, p3⟩, g, nd, hm, hn, hf, _⟩ := txO_get I ha
  have few' : c ≤ sizeLine := fits_of_scanBound few
  refine call_len_set p1 p2 p3 hf (by rw [sizeLine_eq] at few'; omega) ⟨.int (c : Int), H, I.tok _, ⟨_, by rw [hn]⟩, q ⟨_, nd, fun z => (hm z).symm, by rw [List.length_map, Array.length_toList]; exact hn⟩⟩
end
end SetS
set_option Elab.async false
set_option linter.all false
set_option maxRecDepth 100000
set_option maxHeartbeats 4000000
namespace Lw
open PySem PySem.Spec PyProof.Rows L2
/-! texts in order: one row of each set -/
abbrev leS (a b : Str) : Prop := a.cps.toList ≤ b.cps.toList
theorem leS_anti {a b : Str} (h : leS a b) (k : leS b a) : a = b := by
  have z : a.cps.toList = b.cps.toList := List.le_antisymm h k
  obtain ⟨⟨x⟩⟩ := a
  obtain ⟨⟨y⟩⟩ := b
  have z' : x = y := z
  rw [z']
theorem rising_of : ∀ {l : List Str} {p : Str}, risingS p l = true → (∀ x ∈ l, leS p x) ∧ l.Pairwise leS
  | [], p, _ => ⟨fun x h => (by cases h), .nil⟩
  | x :: r, p, h => by
    have h' : (!ltCps x.cps.toList p.cps.toList && risingS x r) = true := h
    obtain ⟨h1, h2⟩ := Bool.and_eq_true_iff.mp h'
    obtain ⟨i1, i2⟩ := rising_of h2
    have px : leS p x := by
      rw [ltCps_eq, Bool.not_eq_true', decide_eq_false_iff_not] at h1
      exact h1
    refine ⟨fun y hy => ?_, List.pairwise_cons.mpr ⟨i1, i2⟩⟩
    rcases List.mem_cons.mp hy with e | e
    · rw [e]
      exact px
    · exact List.le_trans px (i1 y e)
theorem sorted_pw {l : List Str} (h : sortedS l = true) : l.Pairwise leS := by
  cases l with
  | nil => exact .nil
  | cons x r =>
    obtain ⟨i1, i2⟩ := rising_of (show risingS x r = true from h)
    exact List.pairwise_cons.mpr ⟨i1, i2⟩
/-- the members of xs, each once, in order -/
def DistS (xs zs : List Str) : Prop := zs.Pairwise leS ∧ zs.Nodup ∧ ∀ z, z ∈ zs ↔ z ∈ xs
theorem DistS.uniq {xs zs ws : List Str} (h : DistS xs zs) (k : DistS xs ws) : zs = ws :=
  List.Perm.eq_of_pairwise (le := leS) (fun a b _ _ => leS_anti) h.1 k.1 ((List.perm_ext_iff_of_nodup h.2.1 k.2.1).mpr fun z => (h.2.2 z).trans (k.2.2 z).symm)
open Classical in
noncomputable def distS (xs : List Str) : List Str := if h : ∃ zs, DistS xs zs then h.choose else []
theorem distS_eq {xs zs : List Str} (h : DistS xs zs) : distS xs = zs := by
  have z : ∃ zs, DistS xs zs := ⟨zs, h⟩
  unfold distS
  rw [dif_pos z]
  exact z.choose_spec.uniq h
/-! a list is lengthened by a tuple -/
def rExtT (K : PySem.W.Frag) : V → List V → Hp → VK → Prop := fun x vs H Q => ∃ l b xs zs, x = .ref l ∧ vs = [.ref b] ∧ H l = some (.lst xs) ∧ SqT K H b zs ∧ xs.length + zs.length ≤ sizeLine ∧ Q .non (upd H l (.lst (xs ++ zs)))
set_option maxRecDepth 8000 in
theorem ext_meets (l : Addr) (its : Array Value) (n : Nat) (b : Addr) (dd : Option Addr) (sl : Array (Option Value)) (it2 : Array Value) (n2 : Nat) (ok : ¬ (!its.isEmpty && Builtin.List.listTooLong (its.size + it2.size)) = true) (z1 : its.size ≤ sizeLine) (z2 : its.size + it2.size ≤ sizeLine + 1) :
    Meets (Builtin.«list.extend» ⟨[.ref l, .ref b], []⟩) (fun _ R s => s.heap.get? l = some { cls := .type "list", dict := none, data := .seq its n, slots := #[] } ∧ s.heap.get? b = some { cls := .type "tuple", dict := dd, data := .seq it2 n2, slots := sl } ∧
      R (.ok (.ret Value.none)) { s with heap := s.heap.update l (Obj.mapSeq fun x => x ++ it2), toks := s.toks }) :=
  .of_wp fun prog w A R s h => by
    obtain ⟨hp, g, d, tk, os⟩ := s
    obtain ⟨hl, hb, h⟩ := h
    have f1 := PySem.F.sub_tuple_tuple; have f2 := PySem.F.sub_list_list; have f3 := PySem.F.sub_tuple_list; have f4 := PySem.F.sub_list_tuple
    have z3 : (its ++ it2).size ≤ sizeLine + 1 := by rw [Array.size_append]; exact z2
    wp_walk using (wpAny_updateSeq hl rfl (hz := z1) (_hz' := z3)), wpAny_loadPart' hl, wpAny_loadPart' hb
    exact ⟨_, rfl, h⟩
theorem mt_extT {X : Cx} : MtR X "list.extend" (rExtT X.K) := by
  intro pins s σ H x vs v us Q I rx rv h
  obtain ⟨l, b, xs, zs, rfl, rfl, hl, hb, few, q⟩ := h
  cases rx
  obtain ⟨u, rfl, ru⟩ := rv.one
  cases ru
  obtain ⟨_, its, n, r, e1, e⟩ := I.lstM hl
  obtain ⟨its2, r2, ⟨⟨c2, dd, dat, sl⟩, e2, hc, n2, hd⟩, _⟩ := I.tuple hb
  simp only at hc hd
  subst hc; subst hd
  have e3 := r2.length
  have sz : its.toArray.size + its2.toArray.size ≤ sizeLine := by rw [List.size_toArray, List.size_toArray]; omega
  have ok : ¬ (!its.toArray.isEmpty && Builtin.List.listTooLong (its.toArray.size + its2.toArray.size)) = true := by
    rw [notLongL sz, Bool.and_false]
    exact Bool.false_ne_true
  refine call_meets F.slot_list_extend ⟨_, e, rfl⟩ F.entry_list_extend (F.args_list_extend_2 _ _) (ext_meets l its.toArray n b dd sl its2.toArray n2 ok (by rw [List.size_toArray]; omega) (by omega)) ⟨e, e2, ?_⟩
  refine ⟨.non, _, I.lset (its' := its ++ its2) hl e (by simp) (r.append r2) ?_, rfl, q⟩
  rw [List.length_append]
  exact few
end Lw
set_option Elab.async false
set_option linter.all false
set_option maxRecDepth 100000
set_option maxHeartbeats 4000000
namespace Lw
open PySem PySem.Spec PyProof.Rows L2
abbrev sDist : Stmt := topS 19
theorem scDist : FnScope ["inventory", "roots", "items", "kinds", "item"] ["inventory"] (defScope sDist) := ⟨rfl, rfl, rfl, by decide +kernel, rfl, by decide +kernel, by decide +kernel⟩
def strD : PyData → Str
  | .str z => z
  | _ => ""
def kindD : PyData → Str
  | .tuple [_, k, _] => strD k
  | _ => ""
def slotsD : PyData → List Str
  | .tuple [_, _, .tuple zs] => zs.map strD
  | _ => []
def kindsS (rs its : List PyData) : List Str := rs.map strD ++ its.flatMap fun d => kindD d :: slotsD d
theorem word_str {d : PyData} (h : wordD d = true) : d = .str (strD d) := by
  cases d <;> first | rfl | cases h
theorem words_str : ∀ {ds : List PyData}, ds.all wordD = true → ds = (ds.map strD).map .str
  | [], _ => rfl
  | d :: ds, h => by
    obtain ⟨h1, h2⟩ := Bool.and_eq_true_iff.mp (show (wordD d && ds.all wordD) = true from h)
    show d :: ds = .str (strD d) :: (ds.map strD).map .str
    rw [← word_str h1, ← words_str h2]
theorem item_shape {d : PyData} (h : itemD d = true) : d = .tuple [.str (nameD d), .str (kindD d), .tuple ((slotsD d).map .str)] ∧ (slotsD d).length ≤ 4 := by
  unfold itemD at h
  split at h
  · rename_i a b c
    obtain ⟨h1, h2⟩ := Bool.and_eq_true_iff.mp h
    obtain ⟨h3, h4⟩ := Bool.and_eq_true_iff.mp h2
    cases c <;> try cases h4
    rename_i zs
    obtain ⟨h5, h6⟩ := Bool.and_eq_true_iff.mp (show ((decide ((0 : Int) ≤ (zs.length : Int)) && decide ((zs.length : Int) ≤ 4)) && zs.all wordD) = true from h4)
    have h7 := of_decide_eq_true (Bool.and_eq_true_iff.mp h5).2
    have e1 := word_str h1
    have e2 := word_str h3
    have e3 := words_str h6
    refine ⟨?_, ?_⟩
    · show PyData.tuple [a, b, .tuple zs] = .tuple [.str (nameD (.tuple [a, b, .tuple zs])), .str (strD b), .tuple ((zs.map strD).map .str)]
      rw [← e2, ← e3]
      rw [e1]
      rfl
    · show (zs.map strD).length ≤ 4
      rw [List.length_map]
      omega
  · cases h
theorem strs_of {F : Hp} : ∀ {vs : List V} {zs : List Str}, Dl.TlAll F vs (zs.map PyData.str) → vs = zs.map V.str
  | _, [], .nil => rfl
  | _, z :: zs, .cons h t => by
    cases h
    rw [strs_of t]
    rfl
theorem of_strs {F : Hp} : ∀ (zs : List Str), Dl.TlAll F (zs.map V.str) (zs.map PyData.str)
  | [] => .nil
  | z :: zs => .cons (.str z) (of_strs zs)
abbrev okInv (rs its : List PyData) : Prop := rs.all wordD = true ∧ rs.length ≤ 4 ∧ its.all itemD = true ∧ its.length ≤ 24
noncomputable abbrev spDist : Sp := Dl.spF (fun ds => ∃ rs its, ds = [.tuple [.tuple rs, .list its]] ∧ okInv rs its) fun ds => match ds with
  | [.tuple [.tuple rs, .list its]] => .list ((distS (kindsS rs its)).map .str)
  | _ => .none
section
variable {P : Program} {w : World} {K : PySem.W.Frag} {mg : Str → Option Value} {base : Heap}
theorem flat_len : ∀ {ds : List PyData}, ds.all itemD = true → (ds.flatMap fun d => kindD d :: slotsD d).length ≤ 5 * ds.length
  | [], _ => Nat.le_refl _
  | d :: ds, h => by
    obtain ⟨h1, h2⟩ := Bool.and_eq_true_iff.mp (show (itemD d && ds.all itemD) = true from h)
    have z := flat_len h2
    have z1 := (item_shape h1).2
    rw [List.flatMap_cons, List.length_append, List.length_cons, List.length_cons]
    omega
theorem all_take {α : Type} {p : α → Bool} {l : List α} (h : l.all p = true) (i : Nat) : (l.take i).all p = true := List.all_eq_true.mpr fun x hx => List.all_eq_true.mp h x (List.mem_of_mem_take hx)
theorem ok_dist {f : Addr} {fd : FuncData} (F : Fun K "distinct_kinds" "distinct_kinds" sDist f fd) (ml : mg "list" = none) (ms : mg "sorted" = none) (mt : mg "set" = none) :
    FnOk P w K mg base CX0 1 f fd ["inventory"] spDist := by
  refine F.ok scDist (fun vs H Q E h => ?_) (fun cdv A outer s H vs Q E hr h => ?_)
  · obtain ⟨F, ds, _, ht, ⟨rs, its, rfl, _⟩, _⟩ := h
    exact ht.length
  · obtain ⟨F, ds, b, ht, ⟨rs, its, rfl, hrs, hrl, hits, hil⟩, q⟩ := h
    have nd := scDist.nd
    refine ⟨_, pss_cons (ps_asg (pv 0) (pg_tup rfl (pgs_cons (pg_name (i := 1) nd rfl (.inl rfl)) (pgs_cons (pg_name (i := 2) nd rfl (.inl rfl)) pgs_nil))))
      (pss_cons (ps_set (i := 3) nd rfl (.inl rfl) (pe_callTy call_list_of (by rfl) ml (by decide +kernel) (pa_cons (pv 1) pa_nil)))
      (pss_cons (ps_for PassesOwn.never rfl (pi_list (pv 2)) (pg_name (i := 4) nd rfl (.inl rfl)) (pss_cons (ps_expr (pe_bm PySem.F.plainAttrs_list PySem.F.slot_list_append PySem.F.type_list_append mt_append (pv 3) (pa_cons (pe_ix ix_tup (pv 4) pe_int (fun _ _ => rfl)) pa_nil)))
        (pss_one (ps_expr (pe_bm PySem.F.plainAttrs_list PySem.F.slot_list_extend PySem.F.type_list_extend mt_extT (pv 3) (pa_cons (pe_ix ix_tup (pv 4) pe_int (fun _ _ => rfl)) pa_nil))))))
      (pss_one (ps_ret (pe_callB (SetS.cr_sortedX rfl) (by rfl) ms (by decide +kernel) (pa_cons (pe_callTy (SetS.cr_setX rfl) (by rfl) mt (by decide +kernel) (pa_cons (pv 3) pa_nil)) pa_nil)))))), ?_⟩
    cases ht with
    | @cons x _ _ _ hx tl =>
    cases tl
    refine Dl.q_tup (F := F) (Dl.var rfl hx) rfl b fun vs F1 H1 s1 hvs => ?_
    cases hvs with
    | @cons v1 _ _ _ hv1 tl =>
    cases tl with
    | @cons v2 _ _ _ hv2 tl =>
    cases tl
    refine ⟨_, _, rfl, _, _, rfl, rfl, ?_⟩
    cases hv1 with
    | @tup r xs _ h1 t1 =>
    cases hv2 with
    | @lst l ys _ h2 t2 =>
    rw [words_str hrs] at t1
    have exs := strs_of t1
    subst exs
    have hyl := t2.length
    refine ⟨_, rfl, r, _, rfl, .inr (.inl (.inl (s1.i _ _ h1))), fun p hp => ?_⟩
    have fp : F1 p = none := Evl.fresh_back s1.i hp
    refine ⟨_, rfl, l, rfl, ⟨ys, .inl (.inl ((Evl.Ex.new (o := _) hp) _ _ (s1.i _ _ h2)))⟩, ?_⟩
    refine for_list (K := K) (a := l) (xs := ys) (fun i σ H' => ∃ y, σ = [some x, some (.ref r), some (.ref l), some (.ref p), y] ∧ Evl.Ex H1 H' ∧ Evl.Ex F1 H' ∧ H' p = some (.lst ((kindsS rs (its.take i)).map V.str)))
      ⟨none, rfl, Evl.Ex.new hp, s1.i.trans (Evl.Ex.new hp), ?_⟩ (fun i σ H' _ hP => .inl (.inl (hP.choose_spec.2.2.1 _ _ h2))) (fun i v σ H' hi hP => ?_) (fun σ H' hP => ?_)
    · rw [upd_same]
      unfold kindsS
      rw [List.take_zero, List.flatMap_nil, List.append_nil]
    · obtain ⟨y, rfl, eH, eF, hk⟩ := hP
      obtain ⟨d, hdi, td⟩ := t2.getV hi
      have hd : itemD d = true := List.all_eq_true.mp hits d (List.mem_of_getElem? hdi)
      have shape := item_shape hd
      have ek : kindsS rs (its.take (i + 1)) = kindsS rs (its.take i) ++ (kindD d :: slotsD d) := by
        unfold kindsS
        rw [List.take_add_one, hdi, List.flatMap_append, List.append_assoc]
        simp
      have hlen : (kindsS rs (its.take i)).length ≤ 4 + 5 * 24 := by
        have z1 := flat_len (all_take hits i)
        have z2 : (its.take i).length ≤ its.length := by rw [List.length_take]; omega
        unfold kindsS
        rw [List.length_append, List.length_map]
        omega
      have hl4 := shape.2
      generalize nameD d = nm at shape
      generalize kindD d = kd at shape ek
      generalize slotsD d = sl at shape ek hl4
      obtain ⟨shape, _⟩ := shape
      subst shape
      cases td with
      | @tup bb zs _ g1 u1 =>
      cases u1 with
      | @cons w1 _ _ _ a1 u2 =>
      cases u2 with
      | @cons w2 _ _ _ a2 u3 =>
      cases u3 with
      | @cons w3 _ _ _ a3 u4 =>
      cases u4
      cases a1
      cases a2
      cases a3 with
      | @tup cc us _ g2 u5 =>
      have eus := strs_of u5
      subst eus
      have sL := sizeLine_eq
      refine ⟨_, rfl, .inl ⟨rfl, _, .inl (.inl hk)⟩, _, rfl, bb, _, 1, _, rfl, rfl, .inl (.inl (eF _ _ g1)), rfl, p, _, _, rfl, rfl, hk, by rw [List.length_map]; omega, ?_⟩
      have eF1 : Evl.Ex F1 (upd H' p (.lst ((kindsS rs (its.take i)).map V.str ++ [V.str kd]))) := fun a o ha => by
        have na : a ≠ p := fun z => by rw [z, fp] at ha; cases ha
        rw [upd_ne na]
        exact eF _ _ ha
      refine ⟨_, rfl, .inl ⟨rfl, _, .inl (.inl upd_same)⟩, _, rfl, bb, _, 2, _, rfl, rfl, .inl (.inl (eF1 _ _ g1)), rfl, p, cc, _, _, rfl, rfl, upd_same, .inl (.inl (eF1 _ _ g2)), ?_, _, rfl, ?_⟩
      · rw [List.length_append, List.length_map, List.length_map, List.length_singleton]
        omega
      · refine ⟨Evl.Ex.mut (Evl.Ex.mut eH hp) hp, fun a o ha => ?_, ?_⟩
        · have na : a ≠ p := fun z => by rw [z, fp] at ha; cases ha
          rw [upd_ne na]
          exact eF1 _ _ ha
        · rw [upd_same, ek, List.map_append]
          simp
    · obtain ⟨y, rfl, eH, eF, hk⟩ := hP
      have full : its.take ys.length = its := by rw [hyl, List.take_length]
      rw [full] at hk
      have hlen : (kindsS rs its).length ≤ 4 + 5 * 24 := by
        have z1 := flat_len hits
        unfold kindsS
        rw [List.length_append, List.length_map]
        omega
      have sb : 4 + 5 * 24 + 1 < scanBound := by unfold scanBound; omega
      refine ⟨_, rfl, p, kindsS rs its, rfl, .inl (.inl hk), by omega, fun a c ha hc => ?_⟩
      refine ⟨a, kindsS rs its, c, rfl, upd_same, by omega, fun zs q' hs hn hm hl hq => ?_⟩
      have Hn : Evl.Ex H' (upd H' a (SetS.TxO w a (kindsS rs its) c)) := Evl.Ex.new ha
      have ez : distS (kindsS rs its) = zs := distS_eq ⟨sorted_pw hs, hn, hm⟩
      have st : Dl.Stp F1 H1 F1 (upd H' a (SetS.TxO w a (kindsS rs its) c)) := ⟨Evl.Ex.refl _, eH.trans Hn, eF.trans Hn, Dl.Nw.refl⟩
      refine q _ _ _ ((s1.trans st).trans (.new st.i hq)) ?_
      show Dl.Tl _ _ (.list ((distS (kindsS rs its)).map .str))
      rw [ez]
      exact .lst upd_same (of_strs zs)
end
end Lw
set_option Elab.async false
set_option linter.all false
set_option maxRecDepth 100000
set_option maxHeartbeats 4000000
namespace Lw
open PySem PySem.Spec PyProof.Rows L2
abbrev sErr : Stmt := topS 11
theorem scErr : FnScope ["value", "roots", "items", "index"] ["value"] (defScope sErr) := ⟨rfl, rfl, rfl, by decide +kernel, rfl, by decide +kernel, by decide +kernel⟩
/-- what is wrong behind the form of the items -/
noncomputable def lastD (rs its : List PyData) : PyData := if 6 < (distS (kindsS rs its)).length then .tuple [.str "kinds"] else .none
def rowsD : PyData → List PyData
  | .tuple ds => ds
  | .list ds => ds
  | _ => []
noncomputable def errD : PyData → PyData
  | .tuple [r, i] =>
    if kindsD 1 4 r = false then .tuple [.str "roots"]
    else if (Dl.isLst i && (decide (1 ≤ ((rowsD i).length : Int)) && decide (((rowsD i).length : Int) ≤ 24))) = false then .tuple [.str "items"]
    else if Dl.isNon (badD (rowsD i)) = false then .tuple [.str "item", badD (rowsD i)]
    else lastD (rowsD r) (rowsD i)
  | _ => .tuple [.str "inventory"]
abbrev spErr : Sp := Dl.spF (fun ds => ∃ d, ds = [d] ∧ Dl.fit d = true) fun ds => errD (ds.getD 0 .none)
theorem bad_all {its : List PyData} (h : Dl.isNon (badD its) = true) : its.all itemD = true := by
  have all : ∀ j, j < its.length → okAt its j = true := fun j hj => by
    cases q : okAt its j with
    | true => rfl
    | false =>
      exfalso
      obtain ⟨i, hi⟩ : ∃ i, (List.range its.length).find? (fun i => !okAt its i) = some i := by
        cases e : (List.range its.length).find? (fun i => !okAt its i) with
        | some i => exact ⟨i, rfl⟩
        | none =>
          have z := List.find?_eq_none.mp e j (List.mem_range.mpr hj)
          rw [q] at z
          exact absurd rfl z
      unfold badD at h
      rw [hi] at h
      cases h
  refine List.all_eq_true.mpr fun d hd => ?_
  obtain ⟨j, hj, rfl⟩ := List.mem_iff_getElem.mp hd
  have z := all j hj
  unfold okAt at z
  rw [List.getD_eq_getElem?_getD, List.getElem?_eq_getElem hj] at z
  exact (Bool.and_eq_true_iff.mp z).1
section
variable {P : Program} {w : World} {K : PySem.W.Frag} {mg : Str → Option Value} {base : Heap}
theorem ok_err {f fT fB fD : Addr} {fd fdT fdB fdD : FuncData} (F : Fun K "inventory_error" "inventory_error" sErr f fd)
    (FT : Fun K "is_tuple_of_kinds" "is_tuple_of_kinds" sKinds fT fdT) (bT : Binds K fdT ["value", "least", "most"] []) (gT : mg "is_tuple_of_kinds" = some (.ref fT)) (GT : FnOk P w K mg base CX0 3 fT fdT ["value", "least", "most"] spKinds)
    (FB : Fun K "index_of_bad_item" "index_of_bad_item" sBad fB fdB) (bB : Binds K fdB ["items"] []) (gB : mg "index_of_bad_item" = some (.ref fB)) (GB : FnOk P w K mg base CX0 5 fB fdB ["items"] spBad)
    (FD : Fun K "distinct_kinds" "distinct_kinds" sDist fD fdD) (bD : Binds K fdD ["inventory"] []) (gD : mg "distinct_kinds" = some (.ref fD)) (GD : FnOk P w K mg base CX0 1 fD fdD ["inventory"] spDist)
    (mi : mg "isinstance" = none) (mt : mg "tuple" = none) (mli : mg "list" = none) (ml : mg "len" = none) (g4 : GlI mg "MAX_ROOTS" 4) (g24 : GlI mg "MAX_ITEMS" 24) (g6 : GlI mg "MAX_KINDS" 6) :
    FnOk P w K mg base CX0 6 f fd ["value"] spErr := by
  refine F.ok scErr (fun vs H Q E h => ?_) (fun cdv A outer s H vs Q E hr h => ?_)
  · obtain ⟨F, ds, _, ht, ⟨d, rfl, _⟩, _⟩ := h
    exact ht.length
  · obtain ⟨F, ds, b, ht, ⟨d, rfl, hd⟩, q⟩ := h
    have nd := scErr.nd
    have hr1 : Room 1 (A.deeper (envOfC "inventory_error" (defScope sErr) s.heap.objs.size f cdv)) := hr.mono (by decide)
    have hr3 : Room 3 (A.deeper (envOfC "inventory_error" (defScope sErr) s.heap.objs.size f cdv)) := hr.mono (by decide)
    refine ⟨_, pss_cons (ps_if (PW.pt (pw_or (pt_not (pt_val (pe_callB call_isi (by rfl) mi (by decide +kernel) (pa_cons (pv 0) (pa_cons (pe_bltn (v := .ty "tuple") (by rfl) mt (by decide +kernel) rfl) pa_nil)))))
        (pw_or1 (pt_cmpR (op_neD hr.units) (pe_callB call_len (by rfl) ml PySem.boot_len (pa_cons (pv 0) pa_nil)) pe_int (nomark _))))) (pss_one (ps_ret (pe_tup (pa_cons pe_str pa_nil)))) pss_nil)
      (pss_cons (ps_asg (pv 0) (pg_tup rfl (pgs_cons (pg_name (i := 1) nd rfl (.inl rfl)) (pgs_cons (pg_name (i := 2) nd rfl (.inl rfl)) pgs_nil))))
      (pss_cons (ps_if (pt_not (pt_val (pe_call GT hr3 (by rfl) gT FT.kp bT .nil pass0 (pa_cons (pv 1) (pa_cons pe_int (pa_cons (pe_globI (by rfl) g4) pa_nil)))))) (pss_one (ps_ret (pe_tup (pa_cons pe_str pa_nil)))) pss_nil)
      (pss_cons (ps_if (PW.pt (pw_or (pt_not (pt_val (pe_callB call_isi (by rfl) mi (by decide +kernel) (pa_cons (pv 2) (pa_cons (pe_bltn (v := .ty "list") (by rfl) mli (by decide +kernel) rfl) pa_nil)))))
        (pw_or1 (pt_not (pt_chain op_le op_le pe_int (pe_callB call_len (by rfl) ml PySem.boot_len (pa_cons (pv 2) pa_nil)) (pe_globI (by rfl) g24)))))) (pss_one (ps_ret (pe_tup (pa_cons pe_str pa_nil)))) pss_nil)
      (pss_cons (ps_set (i := 3) nd rfl (.inl rfl) (pe_call GB hr (by rfl) gB FB.kp bB .nil pass0 (pa_cons (pv 2) pa_nil)))
      (pss_cons (ps_if (pt_cmp (pc_notN (pv 3))) (pss_one (ps_ret (pe_tup (pa_cons pe_str (pa_cons (pv 3) pa_nil))))) pss_nil)
      (pss_cons (ps_if (pt_cmpR op_gt (pe_callB call_len (by rfl) ml PySem.boot_len (pa_cons (pe_call GD hr1 (by rfl) gD FD.kp bD .nil pass0 (pa_cons (pv 0) pa_nil)) pa_nil)) (pe_globI (by rfl) g6) (nomark _)) (pss_one (ps_ret (pe_tup (pa_cons pe_str pa_nil)))) pss_nil)
      (pss_one (ps_ret pe_non)))))))), ?_⟩
    cases ht with
    | @cons x _ _ _ hx tl =>
    cases tl
    have fin : ∀ e, errD d = e → ∀ y F' H', Dl.Stp F H F' H' → Dl.Tl F' y e → Q y H' := fun e he y F' H' st t => q y F' H' st (by
      show Dl.Tl F' y (errD d)
      rw [he]
      exact t)
    clear q
    cases hz : Dl.isTup d with
    | false =>
      refine Dl.q_when (F := F) (c := true) (Dl.tis (Dl.tor (Dl.tnot (Dl.testB (Dl.isi (Dl.var rfl hx) (Dl.kitTup d)))) (fun z => ?_) (b := false)) (by rw [hz]; rfl)) b (fun _ F1 H1 s1 => ?_) (fun z => Bool.noConfusion z)
      · rw [hz] at z
        cases z
      · refine Dl.s_ret (F := F1) (Dl.tup (Dl.cons Dl.str Dl.nil) (by decide)) s1.i fun y F2 H2 s2 t2 => fin _ ?_ y F2 H2 (s1.trans s2) t2
        cases d <;> first | rfl | cases hz
    | true =>
      cases d <;> try cases hz
      rename_i xs
      have hl := (Dl.fit_tup hd).1
      refine Dl.q_when (F := F) (c := !(decide ((xs.length : Int) = 2))) (Dl.tis (Dl.tor (Dl.tnot (Dl.testB (Dl.isi (Dl.var rfl hx) (Dl.kitTup _)))) (fun _ => Dl.test (Dl.op (Dl.call (Dl.cons (Dl.var rfl hx) Dl.nil) (Dl.len (n := xs.length) rfl)) Dl.int (Dl.neD (int_shaped _) (int_shaped _))))) (by
          simp only [PyData.eqv, Dl.isTup, Bool.not_true, Bool.false_or]
          exact congrArg Bool.not (by rw [Bool.eq_iff_iff, beq_iff_eq, decide_eq_true_iff]))) b (fun hc F1 H1 s1 => ?_) (fun hc F1 H1 s1 => ?_)
      · have h2 : ¬ xs.length = 2 := by
          intro z
          rw [z] at hc
          cases hc
        refine Dl.s_ret (F := F1) (Dl.tup (Dl.cons Dl.str Dl.nil) (by decide)) s1.i fun y F2 H2 s2 t2 => fin _ ?_ y F2 H2 (s1.trans s2) t2
        match xs, h2 with
        | [], _ => rfl
        | [_], _ => rfl
        | [_, _], h => exact absurd rfl h
        | _ :: _ :: _ :: _, _ => rfl
      · have h2 : xs.length = 2 := by
          rw [Bool.not_eq_false'] at hc
          have z := of_decide_eq_true hc
          omega
        obtain ⟨r, i, rfl⟩ : ∃ r i, xs = [r, i] := by
          match xs, h2 with
          | [a, b], _ => exact ⟨a, b, rfl⟩
        have hf := (Dl.fit_tup hd).2
        have fr : Dl.fit r = true := Dl.fits_at (i := 0) hf rfl
        have fi : Dl.fit i = true := Dl.fits_at (i := 1) hf rfl
        clear hc h2 hl
        refine Dl.q_tup (F := F1) (Dl.var rfl (hx.mono s1.f)) rfl s1.i fun vs F2 H2 s2 hvs => ?_
        cases hvs with
        | @cons v1 _ _ _ hv1 tl =>
        cases tl with
        | @cons v2 _ _ _ hv2 tl =>
        cases tl
        refine ⟨_, _, rfl, _, _, rfl, rfl, ?_⟩
        have s12 := s1.trans s2
        refine Dl.q_when (F := F2) (c := !kindsD 1 4 r) (Dl.tnot (Dl.testB (Dl.callF (Dl.cons (Dl.var rfl hv1) (Dl.cons Dl.int (Dl.cons Dl.int Dl.nil))) ⟨_, _, _, rfl, fr⟩))) s2.i (fun hc F3 H3 s3 => ?_) (fun hc F3 H3 s3 => ?_)
        · rw [Bool.not_eq_true'] at hc
          refine Dl.s_ret (F := F3) (Dl.tup (Dl.cons Dl.str Dl.nil) (by decide)) s3.i fun y F4 H4 s4 t4 => fin _ ?_ y F4 H4 ((s12.trans s3).trans s4) t4
          show (if kindsD 1 4 r = false then PyData.tuple [.str "roots"] else _) = _
          rw [if_pos hc]
        · rw [Bool.not_eq_false'] at hc
          have s13 := s12.trans s3
          have nr : ¬ kindsD 1 4 r = false := by rw [hc]; exact fun z => Bool.noConfusion z
          have e1 : errD (.tuple [r, i]) = if (Dl.isLst i && (decide (1 ≤ ((rowsD i).length : Int)) && decide (((rowsD i).length : Int) ≤ 24))) = false then .tuple [.str "items"]
              else if Dl.isNon (badD (rowsD i)) = false then .tuple [.str "item", badD (rowsD i)] else lastD (rowsD r) (rowsD i) := by
            show (if kindsD 1 4 r = false then PyData.tuple [.str "roots"] else _) = _
            rw [if_neg nr]
          have hv2' := hv2.mono s3.f
          have hx3 := ((hx.mono s1.f).mono s2.f).mono s3.f
          refine Dl.q_when (F := F3) (c := !(Dl.isLst i && (decide (1 ≤ ((rowsD i).length : Int)) && decide (((rowsD i).length : Int) ≤ 24)))) ?_ s3.i (fun hc F4 H4 s4 => ?_) (fun hc4 F4 H4 s4 => ?_)
          · cases hzi : Dl.isLst i with
            | false =>
              refine Dl.tis (Dl.tor (Dl.tnot (Dl.testB (Dl.isi (Dl.var rfl hv2') (Dl.kitLst i)))) (fun z => ?_) (b := false)) (by rw [hzi]; rfl)
              rw [hzi] at z
              cases z
            | true =>
              cases i <;> try cases hzi
              rename_i its
              exact Dl.tis (Dl.tor (Dl.tnot (Dl.testB (Dl.isi (Dl.var rfl hv2') (Dl.kitLst _)))) (fun _ => Dl.tnot (Dl.test (Dl.chain Dl.int (Dl.call (Dl.cons (Dl.var rfl hv2') Dl.nil) (Dl.len (n := its.length) rfl)) Dl.rI0b (fun _ => Dl.int) (fun _ => Dl.rI0b))))) rfl
          · rw [Bool.not_eq_true'] at hc
            refine Dl.s_ret (F := F4) (Dl.tup (Dl.cons Dl.str Dl.nil) (by decide)) s4.i fun y F5 H5 s5 t5 => fin _ ?_ y F5 H5 ((s13.trans s4).trans s5) t5
            rw [e1, if_pos hc]
          · rw [Bool.not_eq_false'] at hc4
            have s14 := s13.trans s4
            rw [if_neg (by rw [hc4]; exact fun z => Bool.noConfusion z)] at e1
            obtain ⟨l1, l2⟩ := Bool.and_eq_true_iff.mp hc4
            cases i <;> try cases l1
            rename_i its
            have l3 : its.length ≤ 24 := by
              have z := of_decide_eq_true (Bool.and_eq_true_iff.mp l2).2
              have z' : (its.length : Int) ≤ 24 := z
              omega
            refine Dl.q_asg (F := F4) (Dl.callF (Dl.cons (Dl.var rfl (hv2'.mono s4.f)) Dl.nil) ⟨its, rfl, fi⟩) s4.i fun vi F5 H5 s5 t5 => ?_
            have s15 := s14.trans s5
            refine Dl.q_when (F := F5) (c := !Dl.isNon (badD its)) (Dl.notN (Dl.var rfl t5)) s5.i (fun hc F6 H6 s6 => ?_) (fun hc F6 H6 s6 => ?_)
            · rw [Bool.not_eq_true'] at hc
              refine Dl.s_ret (F := F6) (Dl.tup (Dl.cons Dl.str (Dl.cons (Dl.var rfl (t5.mono s6.f)) Dl.nil)) (by show 2 ≤ 100000; decide)) s6.i fun y F7 H7 s7 t7 => fin _ ?_ y F7 H7 ((s15.trans s6).trans s7) t7
              rw [e1]
              exact if_pos hc
            · rw [Bool.not_eq_false'] at hc
              have hnone : Dl.isNon (badD its) = true := hc
              have s16 := s15.trans s6
              rw [if_neg (by rw [show rowsD (.list its) = its from rfl, hnone]; exact fun z => Bool.noConfusion z)] at e1
              obtain ⟨rs, rfl, r1, r2⟩ : ∃ rs, r = .tuple rs ∧ rs.all wordD = true ∧ rs.length ≤ 4 := by
                have hk : kindsD 1 4 r = true := by
                  cases q : kindsD 1 4 r with
                  | true => rfl
                  | false => exact absurd q nr
                cases r <;> try cases hk
                rename_i rs
                obtain ⟨k1, k2⟩ := Bool.and_eq_true_iff.mp (show ((decide ((1 : Int) ≤ (rs.length : Int)) && decide ((rs.length : Int) ≤ 4)) && rs.all wordD) = true from hk)
                have k3 := of_decide_eq_true (Bool.and_eq_true_iff.mp k1).2
                exact ⟨rs, rfl, k2, by omega⟩
              have oki : okInv rs its := ⟨r1, r2, bad_all hnone, l3⟩
              have hx6 := ((hx3.mono s4.f).mono s5.f).mono s6.f
              have dl : ((distS (kindsS rs its)).map PyData.str).length = (distS (kindsS rs its)).length := List.length_map _
              refine Dl.q_when (F := F6) (c := decide ((6 : Int) < ((distS (kindsS rs its)).length : Int))) (Dl.test (Dl.op (Dl.call (Dl.cons (Dl.callF (Dl.cons (Dl.var rfl hx6) Dl.nil) ⟨rs, its, rfl, oki⟩) Dl.nil) (Dl.len (n := (distS (kindsS rs its)).length) (congrArg some dl))) Dl.int Dl.rI0b)) s6.i (fun hc F7 H7 s7 => ?_) (fun hc F7 H7 s7 => ?_)
              · have h6 := of_decide_eq_true hc
                refine Dl.s_ret (F := F7) (Dl.tup (Dl.cons Dl.str Dl.nil) (by decide)) s7.i fun y F8 H8 s8 t8 => fin _ ?_ y F8 H8 ((s16.trans s7).trans s8) t8
                rw [e1]
                unfold lastD
                rw [if_pos (by show 6 < (distS (kindsS rs its)).length; omega)]
              · have h6 := of_decide_eq_false hc
                have q' : ∀ y F8 H8, Dl.Stp F7 H7 F8 H8 → Dl.Tl F8 y .none → Q y H8 := fun y F8 H8 s8 t8 => fin _ (by
                  rw [e1]
                  unfold lastD
                  rw [if_neg (by show ¬ 6 < (distS (kindsS rs its)).length; omega)]) y F8 H8 ((s16.trans s7).trans s8) t8
                exact q' _ F7 H7 (.refl s7.i) .non
end
end Lw
set_option Elab.async false
set_option linter.all false
set_option maxRecDepth 100000
set_option maxHeartbeats 4000000
/-! the source of draws -/
namespace Lw
open PySem PySem.Spec PyProof.Rows L2
abbrev sSource : Stmt := topS 26
abbrev sDraw : Stmt := topS 27
abbrev sPick : Stmt := topS 28
theorem scSource : FnScope ["_law_script", "_law_cells", "_law_k"] ["_law_script"] (defScope sSource) := ⟨rfl, rfl, rfl, by decide +kernel, rfl, by decide +kernel, by decide +kernel⟩
theorem scDraw : FnScope ["_law_source_here", "_law_limit", "_law_cells", "_law_turn", "_law_at", "_law_cell", "_law_number", "_law_other"] ["_law_source_here", "_law_limit"] (defScope sDraw) := ⟨rfl, rfl, rfl, by decide +kernel, rfl, by decide +kernel, by decide +kernel⟩
theorem scPick : FnScope ["_law_source_here", "_law_values"] ["_law_source_here", "_law_values"] (defScope sPick) := ⟨rfl, rfl, rfl, by decide +kernel, rfl, by decide +kernel, by decide +kernel⟩
section
variable {P : Program} {w : World} {K : PySem.W.Frag} {mg : Str → Option Value} {base : Heap}
/-- the script's cells as a new source, not turned -/
def spSource (K : PySem.W.Frag) : Sp := fun vs H Q _ => ∃ (a : Addr) (ns : List Int), vs = [.ref a] ∧ SqL K H a (ns.map V.int) ∧ ns.length ≤ 63 ∧
  ∀ H' S, Ex H H' → H S.1 = none → H S.2 = none → Src H' S 0 → Q (.ref S.1) H'
theorem cut63 (xs : List V) (h : xs.length ≤ 63) : cutV xs none (some 63) = xs := by
  have e : HT.sIx xs.length xs.length (some 63) = min 63 xs.length := HT.sIx_nat xs.length xs.length 63
  unfold cutV
  rw [e, HT.sIx_none, List.drop_zero, Nat.sub_zero, Nat.min_eq_right h]
  exact List.take_length
theorem cellMod (n : Int) : 0 ≤ n % cellMax ∧ n % cellMax < cellMax := ⟨Int.emod_nonneg n (by have := cellPos; omega), Int.emod_lt_of_pos n cellPos⟩
theorem big18 : (10 : Int) ^ 18 < cellMax := by decide +kernel
theorem ok_source {f : Addr} {fd : FuncData} (F : Fun K "_law_source" "_law_source" sSource f fd) (mr : mg "range" = none) (ml : mg "len" = none) (ma : mg "abs" = none) :
    FnOk P w K mg base CX0 1 f fd ["_law_script"] (spSource K) := by
  refine F.ok scSource (fun vs H Q E h => ?_) (fun cdv A outer s H vs Q E hr h => ?_)
  · obtain ⟨a, ns, rfl, _⟩ := h
    rfl
  · obtain ⟨a, ns, rfl, hS, hlen, q⟩ := h
    have nd := scSource.nd
    have hu := hu_of hr
    refine ⟨_, pss_cons (ps_set (i := 1) nd rfl (.inl rfl) (pe_slice sl_list (pv 0) po_none (po_some pe_int)))
      (pss_cons (ps_for PassesOwn.never rfl (pi_range1 (by rfl) mr (pa_cons (pe_callB call_len_seq (by rfl) ml PySem.boot_len (pa_cons (pv 1) pa_nil)) pa_nil)) (pg_name (i := 2) nd rfl (.inl rfl))
        (pss_one (ps_if (pt_cmpR op_ge (pe_callB call_abs (by rfl) ma (by decide +kernel) (pa_cons (pe_ix ix_list (pv 1) (pv 2) (fun _ _ => rfl)) pa_nil)) (pe_op op_powB pe_int pe_int) (nomark _))
          (pss_one (ps_asg (pe_op op_mod (pe_ix ix_list (pv 1) (pv 2) (fun _ _ => rfl)) (pe_op op_powB (pe_op op_powB pe_int pe_int) pe_int)) (pg_sub (pv 1) (pv 2) set_list))) pss_nil)))
      (pss_cons (ps_if (pt_cmpR (op_eqD hr.units) (pv 1) (pe_lst pa_nil) (nomark _)) (pss_one (ps_set (i := 1) nd rfl (.inl rfl) (pe_lst (pa_cons pe_int pa_nil)))) pss_nil)
      (pss_one (ps_ret (pe_lst (pa_cons (pv 1) (pa_cons pe_int pa_nil))))))), ?_⟩
    have e63 : cutV (ns.map V.int) none (some 63) = ns.map V.int := cut63 _ (by rw [List.length_map]; exact hlen)
    refine Evl.q_asgL (Evl.el_sl (Evl.ev_var rfl) Evl.eo_none (Evl.eo_some Evl.ev_c) hS) fun c H1 hc e1 h1 => ?_
    rw [e63] at h1
    -- the loop
    refine Evl.q_forR1 (n := (ns.length : Int)) (Evl.ea_cons (by
        have z := Evl.ev_len (K := K) (xs := ns.map V.int) (σ := (start ["_law_script", "_law_cells", "_law_k"] [V.ref a]).set 1 (some (.ref c))) (ta := tVar 1) (p := c) (Evl.ev_var rfl) (Evl.sq_of h1)
        rw [List.length_map] at z
        exact z) Evl.ea_nil) ⟨by omega, by omega⟩
      (fun i σ' H' => ∃ (ms : List Int) (y : Option V), σ' = [some (.ref a), some (.ref c), y] ∧ Ex H H' ∧ H' c = some (.lst (ms.map V.int)) ∧ ms.length = ns.length ∧ ∀ j m, j < i → ms[j]? = some m → -cellMax < m ∧ m < cellMax)
      (fun H2 e2 => ⟨ns, none, rfl, Evl.Ex.trans e1 e2, e2 _ _ h1, rfl, fun j m hj => absurd hj (Nat.not_lt_zero j)⟩) (fun i σ' H' hi hP => ?_) (fun σ' H' hP => ?_)
    · obtain ⟨ms, y, rfl, e2, h2, hl, hb⟩ := hP
      have hi' : i < ms.length := by omega
      obtain ⟨m, hm⟩ : ∃ m, ms[i]? = some m := ⟨_, List.getElem?_eq_getElem hi'⟩
      have gm : (ms.map V.int)[i]? = some (.int m) := by
        rw [List.getElem?_map, hm]
        rfl
      have evAt : ∀ H3, Ex H' H3 → Evl.Ev (tOp (rIxL K) (tVar 1) (tVar 2)) [some (.ref a), some (.ref c), some (.int (i : Int))] H3 (.int m) := fun H3 e3 =>
        Evl.ev_op (Evl.ev_var rfl) (Evl.ev_var rfl) (Evl.rv_ixL (Evl.sq_of (e3 _ _ h2)) (atI_nat gm))
      have ev18 : ∀ H3, Evl.Ev (tOp (rI (fun i j => 0 ≤ j ∧ (Builtin.Int.intBits i : Int) * j ≤ 2 ^ 27) fun i j => .int (i ^ j.toNat)) (tC (.int 10)) (tC (.int 18))) [some (.ref a), some (.ref c), some (.int (i : Int))] H3 (.int (10 ^ 18)) := fun H3 =>
        Evl.ev_op Evl.ev_c Evl.ev_c (Evl.rv_I (by decide +kernel))
      have evBig : ∀ H3, Evl.Ev (tOp (rI (fun i j => 0 ≤ j ∧ (Builtin.Int.intBits i : Int) * j ≤ 2 ^ 27) fun i j => .int (i ^ j.toNat)) (tOp (rI (fun i j => 0 ≤ j ∧ (Builtin.Int.intBits i : Int) * j ≤ 2 ^ 27) fun i j => .int (i ^ j.toNat)) (tC (.int 10)) (tC (.int 60))) (tC (.int 20)))
          [some (.ref a), some (.ref c), some (.int (i : Int))] H3 (.int cellMax) := fun H3 =>
        Evl.ev_op (Evl.ev_op Evl.ev_c Evl.ev_c (Evl.rv_I (by decide +kernel))) Evl.ev_c (Evl.rv_I ⟨by decide, bits60⟩)
      refine Evl.s_when (b := decide ((10 : Int) ^ 18 ≤ (if m < 0 then -m else m))) (Evl.et_test (Evl.ev_op (Evl.ev_cb (Evl.ea_cons (evAt H' (Evl.Ex.refl _)) Evl.ea_nil) (fun H3 _ Q q => ⟨m, rfl, q H3 (Evl.Ex.refl _)⟩)) (ev18 H') Evl.rv_I0))
        (fun hb1 H3 e3 => ?_) (fun hb0 H3 e3 => ?_)
      · refine Evl.s_setL (xs := ms.map V.int) (j := i) (v := .int (m % cellMax)) (l := c) (e3 _ _ h2) (Evl.ev_op (evAt H3 e3) (evBig H3) (Evl.rv_I (by show 0 < cellMax; exact cellPos))) (Evl.ev_var rfl) (Evl.ev_var rfl) (by rw [List.length_map]; exact hi') fun H4 e4 => ?_
        refine ⟨ms.set i (m % cellMax), _, rfl, ((e2.trans e3).trans e4).mut hc, ?_, by rw [List.length_set]; exact hl, fun j m' hj hm' => ?_⟩
        · rw [upd_same, List.map_set]
        · by_cases hji : j = i
          · subst hji
            rw [List.getElem?_set_self hi'] at hm'
            have z := Option.some.inj hm'
            have z2 := cellMod m
            omega
          · rw [List.getElem?_set_ne (Ne.symm hji)] at hm'
            exact hb j m' (by omega) hm'
      · refine ⟨ms, _, rfl, e2.trans e3, e3 _ _ h2, hl, fun j m' hj hm' => ?_⟩
        by_cases hji : j = i
        · subst hji
          rw [hm] at hm'
          have z := Option.some.inj hm'
          have z2 := of_decide_eq_false hb0
          have z3 := big18
          subst z
          split at z2 <;> omega
        · exact hb j m' (by omega) hm'
    · obtain ⟨ms, y, rfl, e2, h2, hl, hb⟩ := hP
      have hall : ∀ m ∈ ms, -cellMax < m ∧ m < cellMax := fun m hm => by
        obtain ⟨j, hj, rfl⟩ := List.getElem_of_mem hm
        exact hb j _ (by have := Int.toNat_natCast ns.length; omega) (List.getElem?_eq_getElem hj)
      -- if _law_cells == []
      refine Evl.q_when (b := ms.isEmpty) (Evl.et_test (Evl.ev_opL (Evl.ev_var rfl) (Evl.el_lst (vs := []) Evl.ea_nil (by decide)) fun p H3 hp e3 H4 e4 Q k =>
          ⟨.list (ms.map PyData.int), .list [], .lst (Evl.sq_of (e4 _ _ (e3 _ _ h2))) (dpInts ms), .lst (Evl.sq_of (e4 _ _ hp)) .nil, shapedInts ms, shapedInts [], by rw [eqvNil]; exact k H4 (Evl.Ex.refl _)⟩))
        (fun hb1 H3 e3 => ?_) (fun hb0 H3 e3 => ?_)
      · refine Evl.s_asgL (xs := [V.int 0]) (Evl.el_lst (Evl.ea_cons Evl.ev_c Evl.ea_nil) (by decide)) fun c2 H4 hc2 e4 h4 => ?_
        refine Evl.s_retL (Evl.el_lst (Evl.ea_cons (Evl.ev_var rfl) (Evl.ea_cons Evl.ev_c Evl.ea_nil)) (by show 2 ≤ 100000; decide)) fun p H5 hp e5 h5 => ?_
        have hpc : p ≠ c2 := fun z => by
          rw [z, h4] at hp
          cases hp
        exact q H5 (p, c2) (((e2.trans e3).trans e4).trans e5) (Evl.fresh_back ((e2.trans e3).trans e4) hp) (Evl.fresh_back (e2.trans e3) hc2)
          ⟨hpc, h5, [0], ⟨by simp, by decide, fun n hn => by
            have z := List.mem_singleton.mp hn
            have z2 := cellPos
            omega⟩, e5 _ _ h4⟩
      · refine Evl.s_retL (Evl.el_lst (Evl.ea_cons (Evl.ev_var rfl) (Evl.ea_cons Evl.ev_c Evl.ea_nil)) (by show 2 ≤ 100000; decide)) fun p H5 hp e5 h5 => ?_
        have h3 := e3 _ _ h2
        have hpc : p ≠ c := fun z => by
          rw [z, h3] at hp
          cases hp
        exact q H5 (p, c) ((e2.trans e3).trans e5) (Evl.fresh_back (e2.trans e3) hp) hc ⟨hpc, h5, ms, ⟨fun z => (by
          rw [z] at hb0
          exact Bool.noConfusion hb0), by omega, hall⟩, e5 _ _ h3⟩
end
end Lw
set_option Elab.async false
set_option linter.all false
set_option maxRecDepth 100000
set_option maxHeartbeats 4000000
namespace Lw
open PySem PySem.Spec PyProof.Rows L2
section
variable {P : Program} {w : World} {K : PySem.W.Frag} {mg : Str → Option Value} {base : Heap}
/-- a draw below L: any number there; the source turns on -/
def spDraw (K : PySem.W.Frag) : Sp := fun vs H Q _ => ∃ (S : Addr × Addr) (t : Nat) (L : Int), vs = [.ref S.1, .int L] ∧ Src H S t ∧ t < 2 ^ 40 ∧ 0 < L ∧ L.natAbs < 2 ^ 9000 ∧
  ∀ (k : Int) (H' : Hp), But S H H' → Src H' S (t + 1) → 0 ≤ k → k < L → Q (.int k) H'
theorem hiPow {H : Hp} {σ : L2.St} {i j r : Int} (h : 0 ≤ j ∧ (Builtin.Int.intBits i : Int) * j ≤ 2 ^ 27) (e : i ^ j.toNat = r) :
    Evl.Ev (tOp (rI (fun i j => 0 ≤ j ∧ (Builtin.Int.intBits i : Int) * j ≤ 2 ^ 27) fun i j => .int (i ^ j.toNat)) (tC (.int i)) (tC (.int j))) σ H (.int r) := by
  subst e
  exact Evl.ev_op Evl.ev_c Evl.ev_c (Evl.rv_I h)
theorem cmul_l {i j : Int} (h0 : 0 ≤ i) (h : i < 2 ^ 64) : CMul i j := .inl ⟨by omega, h⟩
theorem ok_draw {f : Addr} {fd : FuncData} (F : Fun K "_law_draw" "_law_draw" sDraw f fd) (ml : mg "len" = none) :
    FnOk P w K mg base CX0 1 f fd ["_law_source_here", "_law_limit"] (spDraw K) := by
  refine F.ok scDraw (fun vs H Q E h => ?_) (fun cdv A outer s H vs Q E hr h => ?_)
  · obtain ⟨S, t, L, rfl, _⟩ := h
    rfl
  · obtain ⟨⟨sa, ca⟩, t, L, rfl, hS, ht, hL0, hLb, q⟩ := h
    obtain ⟨hne, h1, ns, hc, h2⟩ := hS
    dsimp only at hne h1 h2 q ⊢
    have nd := scDraw.nd
    refine ⟨_, pss_cons (ps_asg (pv 0) (pg_lst rfl (pgs_cons (pg_name (i := 2) nd rfl (.inl rfl)) (pgs_cons (pg_name (i := 3) nd rfl (.inl rfl)) pgs_nil))))
      (pss_cons (ps_set (i := 4) nd rfl (.inl rfl) (pe_op op_mod (pv 3) (pe_callB call_len_seq (by rfl) ml PySem.boot_len (pa_cons (pv 2) pa_nil))))
      (pss_cons (ps_set (i := 5) nd rfl (.inl rfl) (pe_ix ix_list (pv 2) (pv 4) (fun _ _ => rfl)))
      (pss_cons (ps_asg (pe_op op_add (pv 3) pe_int) (pg_sub (pv 0) pe_int set_list))
      (pss_cons (ps_if (pt_cmpR op_ge (pv 5) (pe_op op_powB pe_int pe_int) (nomark _))
        (pss_cons (ps_asg (pe_op op_fdivW (pv 5) (pv 1)) (pg_sub (pv 2) (pv 4) set_list)) (pss_one (ps_ret (pe_op op_mod (pv 5) (pv 1))))) pss_nil)
      (pss_cons (ps_set (i := 6) nd rfl (.inl rfl) (pe_op op_mod (pe_op op_add (pe_op op_add (pe_op op_mul (pe_op op_mod (pv 5) pe_int) pe_int) (pe_op op_mul (pe_op op_mul (pv 3) (pv 3)) pe_int)) pe_int) pe_int))
      (pss_cons (ps_set (i := 6) nd rfl (.inl rfl) (pe_op op_mod (pe_op op_mul (pv 6) (pv 6)) pe_int))
      (pss_cons (ps_set (i := 6) nd rfl (.inl rfl) (pe_op op_mod (pe_op op_mul (pv 6) (pv 6)) pe_int))
      (pss_cons (ps_if (pt_cmpR op_gt (pv 1) (pe_op op_powB pe_int pe_int) (nomark _))
        (pss_cons (ps_set (i := 7) nd rfl (.inl rfl) (pe_op op_mod (pe_op op_add (pe_op op_add (pe_op op_mul (pv 6) pe_int) (pe_op op_mul (pv 3) pe_int)) pe_int) pe_int))
          (pss_one (ps_set (i := 6) nd rfl (.inl rfl) (pe_op op_mul (pv 6) (pe_op op_add (pe_op op_mul (pe_op op_mul (pv 7) (pv 7)) (pv 7)) pe_int))))) pss_nil)
      (pss_one (ps_ret (pe_op op_mod (pv 6) (pv 1)))))))))))), ?_⟩
    have nsl : 0 < ns.length := List.length_pos_iff.mpr hc.1
    -- the place
    have hat0 : 0 ≤ (t : Int) % (ns.length : Int) := Int.emod_nonneg _ (by omega)
    have hatL : (t : Int) % (ns.length : Int) < (ns.length : Int) := Int.emod_lt_of_pos _ (by omega)
    obtain ⟨j, hj⟩ : ∃ j : Nat, (t : Int) % (ns.length : Int) = (j : Int) := ⟨((t : Int) % (ns.length : Int)).toNat, (Int.toNat_of_nonneg hat0).symm⟩
    have hjl : j < ns.length := by omega
    obtain ⟨m, hm⟩ : ∃ m, ns[j]? = some m := ⟨_, List.getElem?_eq_getElem hjl⟩
    have gm : (ns.map V.int)[j]? = some (.int m) := by
      rw [List.getElem?_map, hm]
      rfl
    have hmb := hc.2.2 m (List.mem_of_getElem? hm)
    refine ⟨_, rfl, sa, _, rfl, .inl (.inl h1), rfl, _, _, rfl, _, _, rfl, rfl, ?_⟩
    refine Evl.q_asg (v := .int (j : Int)) (Evl.ev_op (z := .int (j : Int)) (x := .int (t : Int)) (y := .int (ns.length : Int)) (Evl.ev_var rfl) (by
        have z := Evl.ev_len (K := K) (H := H) (xs := ns.map V.int) (ta := tVar 2) (p := ca) (σ := [some (V.ref sa), some (.int L), some (.ref ca), some (.int (t : Int)), none, none, none, none]) (Evl.ev_var rfl) (Evl.sq_of h2)
        rw [List.length_map] at z
        exact z) (by rw [← hj]; exact Evl.rv_I (by show (0 : Int) < (ns.length : Int); omega))) fun H1 e1 => ?_
    refine Evl.q_asg (Evl.ev_op (Evl.ev_var rfl) (Evl.ev_var rfl) (Evl.rv_ixL (Evl.sq_of (e1 _ _ h2)) (atI_nat gm))) fun H2 e2 => ?_
    have e12 := e1.trans e2
    refine Evl.q_setL (l := sa) (xs := [.ref ca, .int (t : Int)]) (j := 1) (v := .int ((t : Int) + 1)) (e12 _ _ h1) (Evl.ev_op (Evl.ev_var rfl) Evl.ev_c Evl.rv_I0) (Evl.ev_var rfl) Evl.ev_c (by show 1 < 2; decide) fun H3 e3 => ?_
    have e13 := e12.trans e3
    -- the heap from here on
    generalize hK : upd H3 sa (.lst ([V.ref ca, V.int (t : Int)].set 1 (.int ((t : Int) + 1)))) = K0
    have k1 : K0 sa = some (.lst [.ref ca, .int ((t + 1 : Nat) : Int)]) := by
      rw [← hK, upd_same]
      rfl
    have k2 : K0 ca = some (.lst (ns.map V.int)) := by
      rw [← hK, upd_ne (Ne.symm hne)]
      exact e13 _ _ h2
    have kb : But (sa, ca) H K0 := fun b o b1 b2 hb => by
      rw [← hK, upd_ne b1]
      exact e13 _ _ hb
    have done : ∀ (H4 : Hp), Ex K0 H4 → ∀ k, 0 ≤ k → k < L → Q (.int k) H4 := fun H4 e4 k a b =>
      q k H4 (kb.trans (.of e4)) ⟨hne, e4 _ _ k1, ns, hc, e4 _ _ k2⟩ a b
    clear hK e13 e12 e3 e2 e1
    have evMod : ∀ (i : Nat) (x : Int) (σ : L2.St) (H4 : Hp), σ[i]? = some (some (.int x)) → σ[1]? = some (some (.int L)) →
        Evl.Ev (tOp (rI (fun _ j => 0 < j) fun i j => .int (i % j)) (tVar i) (tVar 1)) σ H4 (.int (x % L)) := fun i x σ H4 a b =>
      Evl.ev_op (Evl.ev_var a) (Evl.ev_var b) (Evl.rv_I (by show 0 < L; exact hL0))
    have modL : ∀ x : Int, 0 ≤ x % L ∧ x % L < L := fun x => ⟨Int.emod_nonneg _ (by omega), Int.emod_lt_of_pos _ hL0⟩
    refine Evl.q_when (b := decide ((10 : Int) ^ 18 ≤ m)) (Evl.et_test (Evl.ev_op (Evl.ev_var rfl) (hiPow (by decide +kernel) rfl) Evl.rv_I0)) (fun hb1 H4 e4 => ?_) (fun hb0 H4 e4 => ?_)
    · have m18 : (10 : Int) ^ 18 ≤ m := of_decide_eq_true hb1
      have d18 : (0 : Int) < 10 ^ 18 := by decide
      have q0 : 0 ≤ m / L := Int.ediv_nonneg (by omega) (by omega)
      have q1 : m / L ≤ m := Int.ediv_le_self _ (by omega)
      refine Evl.q_setL (l := ca) (xs := ns.map V.int) (j := j) (v := .int (m / L)) (e4 _ _ k2) (Evl.ev_op (Evl.ev_var rfl) (Evl.ev_var rfl) (Evl.rv_I (show CDivW m L from wide_div hL0 hLb (by decide) (by decide)))) (Evl.ev_var rfl) (Evl.ev_var rfl)
        (by rw [List.length_map]; exact hjl) fun H5 e5 => ?_
      refine Evl.s_ret (evMod 5 m _ _ rfl rfl) fun H6 e6 => ?_
      have e45 := e4.trans e5
      refine q _ _ (fun b o b1 b2 hb => ?_) ⟨hne, ?_, ns.set j (m / L), ⟨fun z => ?_, by rw [List.length_set]; exact hc.2.1, fun n hn => ?_⟩, ?_⟩ (modL m).1 (modL m).2
      · refine e6 _ _ ?_
        rw [upd_ne b2]
        exact e45 _ _ (kb b o b1 b2 hb)
      · refine e6 _ _ ?_
        rw [upd_ne hne]
        exact e45 _ _ k1
      · have z2 := congrArg List.length z
        rw [List.length_set] at z2
        exact hc.1 (List.length_eq_zero_iff.mp z2)
      · rcases List.mem_or_eq_of_mem_set hn with z | z
        · exact hc.2.2 n z
        · subst z
          have z2 := cellPos
          omega
      · refine e6 _ _ ?_
        rw [upd_same, List.map_set]
    · have evSq : ∀ (x : Int) (σ : L2.St) (H4 : Hp) (M : Int), 0 ≤ x → x < 2 ^ 31 → σ[6]? = some (some (.int x)) → 0 < M →
          Evl.Ev (tOp (rI (fun _ j => 0 < j) fun i j => .int (i % j)) (tOp (rI CMul fun i j => .int (i * j)) (tVar 6) (tVar 6)) (tC (.int M))) σ H4 (.int (x * x % M)) := fun x σ H4 M a b c d =>
        Evl.ev_op (Evl.ev_op (Evl.ev_var c) (Evl.ev_var c) (Evl.rv_I (cmul_l a (by omega)))) Evl.ev_c (Evl.rv_I (by show 0 < M; exact d))
      have t0 : (0 : Int) ≤ (t : Int) := by omega
      have t40 : (t : Int) < 2 ^ 40 := by omega
      have md : ∀ x M : Int, 0 < M → 0 ≤ x % M ∧ x % M < M := fun x M hM => ⟨Int.emod_nonneg _ (by omega), Int.emod_lt_of_pos _ hM⟩
      have c1 := md m 2147483629 (by decide)
      have tt : (t : Int) * (t : Int) < 2 ^ 80 := by
        have z : (t : Int) * (t : Int) ≤ (2 ^ 40 - 1) * (2 ^ 40 - 1) := Int.mul_le_mul (by omega) (by omega) t0 (by decide)
        have z2 : ((2 : Int) ^ 40 - 1) * (2 ^ 40 - 1) < 2 ^ 80 := by decide
        omega
      refine Evl.q_asg (v := .int ((m % 2147483629 * 48271 + (t : Int) * (t : Int) * 69621 + 11) % 2147483647)) (Evl.ev_op (Evl.ev_op (Evl.ev_op (Evl.ev_op (Evl.ev_op (Evl.ev_var rfl) Evl.ev_c (Evl.rv_I (by decide))) Evl.ev_c (Evl.rv_I (cmul_l c1.1 (by omega))))
          (Evl.ev_op (Evl.ev_op (Evl.ev_var rfl) (Evl.ev_var rfl) (Evl.rv_I (cmul_l t0 (by omega)))) Evl.ev_c (Evl.rv_I (show CMul _ _ from .inr ⟨by decide, by decide⟩))) Evl.rv_I0) Evl.ev_c Evl.rv_I0) Evl.ev_c (Evl.rv_I (by decide))) fun H5 e5 => ?_
      have c2 := md (m % 2147483629 * 48271 + (t : Int) * (t : Int) * 69621 + 11) 2147483647 (by decide)
      generalize (m % 2147483629 * 48271 + (t : Int) * (t : Int) * 69621 + 11) % 2147483647 = x2 at c2 ⊢
      refine Evl.q_asg (evSq x2 _ _ 2147483629 c2.1 (by omega) rfl (by decide)) fun H6 e6 => ?_
      have c3 := md (x2 * x2) 2147483629 (by decide)
      generalize x2 * x2 % 2147483629 = x3 at c3 ⊢
      refine Evl.q_asg (evSq x3 _ _ 2147483587 c3.1 (by omega) rfl (by decide)) fun H7 e7 => ?_
      have c4 := md (x3 * x3) 2147483587 (by decide)
      generalize x3 * x3 % 2147483587 = x4 at c4 ⊢
      have e47 := ((e4.trans e5).trans e6).trans e7
      refine Evl.q_when (b := decide ((10 : Int) ^ 9 < L)) (Evl.et_test (Evl.ev_op (Evl.ev_var rfl) (hiPow (by decide +kernel) rfl) Evl.rv_I0)) (fun hb1 H8 e8 => ?_) (fun hb2 H8 e8 => ?_)
      · have c5 := md (x4 * 39373 + (t : Int) * 7919 + 500) 2147483629 (by decide)
        refine Evl.q_asg (v := .int ((x4 * 39373 + (t : Int) * 7919 + 500) % 2147483629)) (Evl.ev_op (Evl.ev_op (Evl.ev_op (Evl.ev_op (Evl.ev_var rfl) Evl.ev_c (Evl.rv_I (cmul_l c4.1 (by omega))))
          (Evl.ev_op (Evl.ev_var rfl) Evl.ev_c (Evl.rv_I (cmul_l t0 (by omega)))) Evl.rv_I0) Evl.ev_c Evl.rv_I0) Evl.ev_c (Evl.rv_I (by decide))) fun H9 e9 => ?_
        generalize (x4 * 39373 + (t : Int) * 7919 + 500) % 2147483629 = x5 at c5 ⊢
        have s5 : 0 ≤ x5 * x5 := Int.mul_nonneg c5.1 c5.1
        have s6 : x5 * x5 < 2 ^ 64 := by
          have z3 : x5 * x5 ≤ 2147483629 * 2147483629 := Int.mul_le_mul (by omega) (by omega) c5.1 (by decide)
          have z2 : (2147483629 : Int) * 2147483629 < 2 ^ 64 := by decide
          omega
        refine Evl.s_asg (v := .int (x4 * (x5 * x5 * x5 + 1))) (Evl.ev_op (Evl.ev_var rfl) (Evl.ev_op (Evl.ev_op (Evl.ev_op (Evl.ev_var rfl) (Evl.ev_var rfl) (Evl.rv_I (cmul_l c5.1 (by omega)))) (Evl.ev_var rfl) (Evl.rv_I (cmul_l s5 s6))) Evl.ev_c Evl.rv_I0) (Evl.rv_I (cmul_l c4.1 (by omega)))) fun H10 e10 => ?_
        exact Evl.s_ret (evMod 6 _ _ _ rfl rfl) fun H11 e11 => done H11 ((((e47.trans e8).trans e9).trans e10).trans e11) _ (modL _).1 (modL _).2
      · exact Evl.s_ret (evMod 6 _ _ _ rfl rfl) fun H9 e9 => done H9 ((e47.trans e8).trans e9) _ (modL _).1 (modL _).2
end
end Lw
set_option Elab.async false
set_option linter.all false
set_option maxRecDepth 100000
set_option maxHeartbeats 4000000
namespace Lw
open PySem PySem.Spec PyProof.Rows L2
section
variable {P : Program} {w : World} {K : PySem.W.Frag} {mg : Str → Option Value} {base : Heap}
theorem But.seq {S : Addr × Addr} {H H' : Hp} {a : Addr} {xs : List V} (e : But S H H') (a1 : a ≠ S.1) (a2 : a ≠ S.2) (h : SqL K H a xs) : SqL K H' a xs := by
  rcases h with (h | ⟨o, h⟩) | h
  · exact .inl (.inl (e _ _ a1 a2 h))
  · exact .inl (.inr ⟨o, e _ _ a1 a2 h⟩)
  · exact .inr h
/-- one of the values -/
def spPick (K : PySem.W.Frag) : Sp := fun vs H Q _ => ∃ (S : Addr × Addr) (t : Nat) (va : Addr) (xs : List V), vs = [.ref S.1, .ref va] ∧ Src H S t ∧ t < 2 ^ 40 ∧ SqL K H va xs ∧ va ≠ S.1 ∧ va ≠ S.2 ∧ 0 < xs.length ∧ xs.length ≤ 1000000 ∧
  ∀ (x : V) (H' : Hp), But S H H' → Src H' S (t + 1) → x ∈ xs → Q x H'
theorem ok_pick {f fD : Addr} {fd fdD : FuncData} (F : Fun K "_law_pick" "_law_pick" sPick f fd) (FD : Fun K "_law_draw" "_law_draw" sDraw fD fdD) (bD : Binds K fdD ["_law_source_here", "_law_limit"] []) (gD : mg "_law_draw" = some (.ref fD)) (ml : mg "len" = none) :
    FnOk P w K mg base CX0 2 f fd ["_law_source_here", "_law_values"] (spPick K) := by
  have GD : FnOk P w K mg base CX0 1 fD fdD ["_law_source_here", "_law_limit"] (spDraw K) := ok_draw FD ml
  refine F.ok scPick (fun vs H Q E h => ?_) (fun cdv A outer s H vs Q E hr h => ?_)
  · obtain ⟨S, t, va, xs, rfl, _⟩ := h
    rfl
  · obtain ⟨S, t, va, xs, rfl, hS, ht, hx, n1, n2, l0, l1, q⟩ := h
    refine ⟨_, pss_one (ps_ret (pe_ix ix_list (pv 1) (pe_call GD hr (by rfl) gD FD.kp bD .nil pass0 (pa_cons (pv 0) (pa_cons (pe_callB call_len_seq (by rfl) ml PySem.boot_len (pa_cons (pv 1) pa_nil)) pa_nil))) (fun _ _ => rfl))), ?_⟩
    refine ⟨_, rfl, _, rfl, _, rfl, va, xs, rfl, .inl hx, S, t, (xs.length : Int), rfl, hS, ht, by omega, ?_, fun k H' hb hs k0 kL => ?_⟩
    · have z : (xs.length : Int).natAbs = xs.length := by omega
      rw [z]
      exact Nat.lt_of_le_of_lt l1 (Nat.lt_of_lt_of_le (by decide : 1000000 < 2 ^ 20) (Nat.pow_le_pow_right (by decide) (by decide)))
    · obtain ⟨i, rfl⟩ : ∃ i : Nat, k = (i : Int) := ⟨k.toNat, (Int.toNat_of_nonneg k0).symm⟩
      have hi : i < xs.length := by omega
      exact ⟨va, xs, (i : Int), xs[i], rfl, rfl, hb.seq n1 n2 hx, atI_nat (List.getElem?_eq_getElem hi), q _ _ hb hs (List.getElem_mem hi)⟩
end
end Lw
set_option Elab.async false
set_option linter.all false
set_option maxRecDepth 100000
set_option maxHeartbeats 4000000
set_option exponentiation.threshold 10000
/-! what draws: evaluation that turns the source S, which the frozen heap F does not know -/
namespace Gn
open PySem PySem.Spec PyProof.Rows L2 Lw
abbrev D := PyData
abbrev Tl := @Dl.Tl
abbrev TlAll := @Dl.TlAll
def Hid (S : Addr × Addr) (F : Hp) : Prop := F S.1 = none ∧ F S.2 = none
structure Stg (S : Addr × Addr) (F H F' H' : Hp) : Prop where
  f : Ex F F'
  h : But S H H'
  i : Ex F' H'
  n : Dl.Nw H F F'
  d : ∀ b, H b ≠ none → H' b ≠ none
structure At (S : Addr × Addr) (F H : Hp) (t : Nat) : Prop where
  i : Ex F H
  hid : Hid S F
  src : Src H S t
section
variable {S : Addr × Addr} {F F1 F2 H H1 H2 : Hp} {t t1 : Nat}
theorem ex_dom (e : Ex H H1) : ∀ b, H b ≠ none → H1 b ≠ none := fun b h => by
  cases q : H b with
  | none => exact absurd q h
  | some o =>
    rw [e b o q]
    exact fun z => nomatch z
theorem Src.dom (s : Src H S t) : H S.1 ≠ none ∧ H S.2 ≠ none := by
  obtain ⟨_, h1, ns, _, h2⟩ := s
  exact ⟨by rw [h1]; exact fun z => (nomatch z), by rw [h2]; exact fun z => (nomatch z)⟩
theorem Stg.of (s : Dl.Stp F H F1 H1) : Stg S F H F1 H1 := ⟨s.f, .of s.h, s.i, s.n, ex_dom s.h⟩
theorem Stg.refl (i : Ex F H) : Stg S F H F H := .of (.refl i)
theorem Stg.trans (a : Stg S F H F1 H1) (b : Stg S F1 H1 F2 H2) : Stg S F H F2 H2 :=
  ⟨a.f.trans b.f, a.h.trans b.h, b.i, fun c h1 h2 => b.n c (a.n c h1 h2) (a.d c h2), fun c h => b.d c (a.d c h)⟩
theorem At.ex (e : Ex F F1) (a : At S F1 H t) : Ex F H := e.trans a.i
theorem At.step (a : At S F H t) (s : Dl.Stp F H F1 H1) : At S F1 H1 t :=
  ⟨s.i, ⟨s.n _ a.hid.1 (Src.dom a.src).1, s.n _ a.hid.2 (Src.dom a.src).2⟩, a.src.mono s.h⟩
theorem Stg.draw (a : At S F H t) (b : But S H H1) (s : Src H1 S t1) : Stg S F H F H1 ∧ At S F H1 t1 := by
  have i : Ex F H1 := fun c o h => b c o (fun z => by rw [z, a.hid.1] at h; cases h) (fun z => by rw [z, a.hid.2] at h; cases h) (a.i c o h)
  refine ⟨⟨Evl.Ex.refl _, b, i, Dl.Nw.refl, fun c h => ?_⟩, i, a.hid, s⟩
  by_cases c1 : c = S.1
  · rw [c1]
    exact (Src.dom s).1
  · by_cases c2 : c = S.2
    · rw [c2]
      exact (Src.dom s).2
    · cases q : H c with
      | none => exact absurd q h
      | some o =>
        rw [b c o c1 c2 q]
        exact fun z => nomatch z
end
/-- te turns the source at most n times and gives a datum with P -/
def EvG (S : Addr × Addr) (te : TE) (σ : L2.St) (F : Hp) (n : Nat) (P : D → Prop) : Prop := ∀ F1 H1 t, Ex F F1 → At S F1 H1 t → t + n < 2 ^ 40 → ∀ Q : VK,
  (∀ x d F2 H2 t', Stg S F1 H1 F2 H2 → At S F2 H2 t' → t' ≤ t + n → Tl F2 x d → P d → Q x H2) → te σ H1 Q
def EvGA (S : Addr × Addr) (ta : TA) (σ : L2.St) (F : Hp) (n : Nat) (P : List D → Prop) : Prop := ∀ F1 H1 t, Ex F F1 → At S F1 H1 t → t + n < 2 ^ 40 → ∀ Q : List V → Hp → Prop,
  (∀ xs ds F2 H2 t', Stg S F1 H1 F2 H2 → At S F2 H2 t' → t' ≤ t + n → TlAll F2 xs ds → P ds → Q xs H2) → ta σ H1 Q
section
variable {K : PySem.W.Frag} {S : Addr × Addr} {σ : L2.St} {F G H : Hp} {ta : TA} {te tb : TE} {n m : Nat} {P P2 P3 : D → Prop} {Ps : List D → Prop} {d : D} {ds : List D}
theorem EvG.mono (e : Ex F G) (h : EvG S te σ F n P) : EvG S te σ G n P := fun F1 H1 t a => h F1 H1 t (e.trans a)
theorem EvG.weak (h : EvG S te σ F n P) (l : n ≤ m) (w : ∀ d, P d → P2 d) : EvG S te σ F m P2 := fun F1 H1 t a i lim Q q =>
  h F1 H1 t a i (by omega) Q fun x d F2 H2 t' s i2 l2 tl p => q x d F2 H2 t' s i2 (by omega) tl (w d p)
theorem EvGA.weak {Ps2 : List D → Prop} (h : EvGA S ta σ F n Ps) (l : n ≤ m) (w : ∀ d, Ps d → Ps2 d) : EvGA S ta σ F m Ps2 := fun F1 H1 t a i lim Q q =>
  h F1 H1 t a i (by omega) Q fun x d F2 H2 t' s i2 l2 tl p => q x d F2 H2 t' s i2 (by omega) tl (w d p)
/-- without a draw -/
theorem pure (h : Dl.Ev te σ F d) : EvG S te σ F 0 (· = d) := fun F1 H1 t a i lim Q q => h F1 H1 a i.i Q fun x F2 H2 s tl => q x d F2 H2 t (.of s) (i.step s) (Nat.le_refl _) tl rfl
theorem nil : EvGA S tNil σ F 0 (· = []) := fun F1 H1 t a i lim Q q => q [] [] F1 H1 t (.refl i.i) i (Nat.le_refl _) .nil rfl
theorem cons (h : EvG S te σ F n P) (hr : EvGA S ta σ F m Ps) : EvGA S (tCons te ta) σ F (n + m) (fun ds => ∃ d es, ds = d :: es ∧ P d ∧ Ps es) := fun F1 H1 t a i lim Q q =>
  h F1 H1 t a i (by omega) _ fun x d F2 H2 t2 s i2 l2 tl p => hr F2 H2 t2 (a.trans s.f) i2 (by omega) _ fun xs es F3 H3 t3 s3 i3 l3 tls ps =>
    q (x :: xs) (d :: es) F3 H3 t3 (s.trans s3) i3 (by omega) (.cons (tl.mono s3.f) tls) ⟨d, es, rfl, p, ps⟩
theorem op {r : R2} (ha : EvG S te σ F n P) (hb : EvG S tb σ F m P2) (hr : ∀ d1 d2, P d1 → P2 d2 → ∃ d, P3 d ∧ Dl.RV r d1 d2 d) : EvG S (tOp r te tb) σ F (n + m) P3 := fun F1 H1 t a i lim Q q =>
  ha F1 H1 t a i (by omega) _ fun x d1 F2 H2 t2 s i2 l2 tl p => hb F2 H2 t2 (a.trans s.f) i2 (by omega) _ fun y d2 F3 H3 t3 s3 i3 l3 tl3 p2 => by
    obtain ⟨d, p3, rv⟩ := hr d1 d2 p p2
    exact rv F3 H3 i3.i x y (tl.mono s3.f) tl3 Q fun z F4 H4 s4 tz => q z d F4 H4 t3 ((s.trans s3).trans (.of s4)) (i3.step s4) (by omega) tz p3
theorem call {r : List V → Hp → VK → Prop} (h : EvGA S ta σ F n Ps) (hr : ∀ ds, Ps ds → ∃ d, P d ∧ Dl.RC r ds d) : EvG S (tCB r ta) σ F n P := fun F1 H1 t a i lim Q q =>
  h F1 H1 t a i lim _ fun xs ds F2 H2 t2 s i2 l2 tl p => by
    obtain ⟨d, p3, rc⟩ := hr ds p
    exact rc F2 H2 i2.i xs tl Q fun z F4 H4 s4 tz => q z d F4 H4 t2 (s.trans (.of s4)) (i2.step s4) l2 tz p3
theorem lst (h : EvGA S ta σ F n Ps) (hl : ∀ ds, Ps ds → ds.length ≤ 100000) : EvG S (tLst ta) σ F n (fun d => ∃ ds, d = .list ds ∧ Ps ds) := fun F1 H1 t a i lim Q q =>
  h F1 H1 t a i lim _ fun xs ds F2 H2 t2 s i2 l2 tl p => ⟨Evl.sz_of (by rw [tl.length]; exact hl ds p), fun q' hq => by
    have st : Dl.Stp F2 H2 (upd F2 q' (.lst xs)) (upd H2 q' (.lst xs)) := .new i2.i hq
    exact q _ (.list ds) _ _ t2 (s.trans (.of st)) (i2.step st) l2 (.lst upd_same (tl.mono st.f)) ⟨ds, rfl, p⟩⟩
theorem tup (h : EvGA S ta σ F n Ps) (hl : ∀ ds, Ps ds → ds.length ≤ 100000) : EvG S (tTup ta) σ F n (fun d => ∃ ds, d = .tuple ds ∧ Ps ds) := fun F1 H1 t a i lim Q q =>
  h F1 H1 t a i lim _ fun xs ds F2 H2 t2 s i2 l2 tl p => ⟨Evl.sz_of (by rw [tl.length]; exact hl ds p), fun q' hq => by
    have st : Dl.Stp F2 H2 (upd F2 q' (.tup xs)) (upd H2 q' (.tup xs)) := .new i2.i hq
    exact q _ (.tuple ds) _ _ t2 (s.trans (.of st)) (i2.step st) l2 (.tup upd_same (tl.mono st.f)) ⟨ds, rfl, p⟩⟩
/-- the i-th slot holds the source -/
def Holds (S : Addr × Addr) (σ : L2.St) (i : Nat) : Prop := σ[i]? = some (some (.ref S.1))
theorem draw {i : Nat} {E : XK} (hs : Holds S σ i) (hw : ∀ L, P (.int L) → 0 < L ∧ L < 2 ^ 40) (h2 : EvG S te σ F n P) (h3 : ∀ d, P d → ∃ L, d = .int L) :
    EvG S (tCall (spDraw K) [] E (tCons (tVar i) (tCons te tNil))) σ F (n + 1) (fun d => ∃ L k, P (.int L) ∧ d = .int k ∧ 0 ≤ k ∧ k < L) := fun F1 H1 t a at_ lim Q q =>
  ⟨_, hs, h2 F1 H1 t a at_ (by omega) _ fun x d F2 H2 t2 s i2 l2 tl p => by
    obtain ⟨L, rfl⟩ := h3 d p
    obtain ⟨b1, b2⟩ := hw L p
    cases tl
    refine ⟨S, t2, L, rfl, i2.src, by omega, b1, ?_, fun k H3 but src k0 kL => ?_⟩
    · have z : L.natAbs < 2 ^ 40 := by omega
      exact Nat.lt_of_lt_of_le z (Nat.pow_le_pow_right (by decide) (by decide))
    · obtain ⟨s3, i3⟩ := Stg.draw i2 but src
      exact q _ (.int k) F2 H3 (t2 + 1) (s.trans s3) i3 (by omega) (.int k) ⟨L, k, p, rfl, k0, kL⟩⟩
theorem TlAll.mem {F : Hp} {vs : List V} {ds : List D} (h : TlAll F vs ds) {x : V} (hx : x ∈ vs) : ∃ d, d ∈ ds ∧ Tl F x d := by
  obtain ⟨i, hi, rfl⟩ := List.mem_iff_getElem.mp hx
  obtain ⟨d, h1, h2⟩ := h.getV (List.getElem?_eq_getElem hi)
  exact ⟨d, List.mem_of_getElem? h1, h2⟩
theorem pick {i : Nat} {E : XK} (hs : Holds S σ i) (h : EvG S te σ F n P) (hP : ∀ d, P d → ∃ ds, d = .list ds ∧ 0 < ds.length ∧ ds.length ≤ 100000) :
    EvG S (tCall (spPick K) [] E (tCons (tVar i) (tCons te tNil))) σ F (n + 1) (fun d => ∃ ds, P (.list ds) ∧ d ∈ ds) := fun F1 H1 t a at_ lim Q q =>
  ⟨_, hs, h F1 H1 t a at_ (by omega) _ fun x d F2 H2 t2 s i2 l2 tl p => by
    obtain ⟨ds, rfl, l0, l1⟩ := hP d p
    cases tl with
    | @lst va xs _ h1 tls =>
      have len := tls.length
      refine ⟨S, t2, va, xs, rfl, i2.src, by omega, .inl (.inl (i2.i _ _ h1)), fun z => ?_, fun z => ?_, by omega, by omega, fun y H3 but src hy => ?_⟩
      · rw [z, i2.hid.1] at h1
        cases h1
      · rw [z, i2.hid.2] at h1
        cases h1
      · obtain ⟨s3, i3⟩ := Stg.draw i2 but src
        obtain ⟨e, he, te⟩ := TlAll.mem tls hy
        exact q _ e F2 H3 (t2 + 1) (s.trans s3) i3 (by omega) te ⟨ds, p, he⟩⟩
/-- a function that draws -/
def spG (n : Nat) (ok : List D → Prop) (P : List D → D → Prop) : Sp := fun vs H Q _ => ∃ S F t ws ds, vs = .ref S.1 :: ws ∧ At S F H t ∧ TlAll F ws ds ∧ ok ds ∧ t + n < 2 ^ 40 ∧
  ∀ y d F' H' t', Stg S F H F' H' → At S F' H' t' → t' ≤ t + n → Tl F' y d → P ds d → Q y H'
theorem callG {i : Nat} {E : XK} {ok : List D → Prop} {Pf : List D → D → Prop} (hs : Holds S σ i) (h : EvGA S ta σ F n Ps) (hok : ∀ ds, Ps ds → ok ds) : EvG S (tCall (spG m ok Pf) [] E (tCons (tVar i) ta)) σ F (n + m) (fun d => ∃ ds, Ps ds ∧ Pf ds d) := fun F1 H1 t a at_ lim Q q =>
  ⟨_, hs, h F1 H1 t a at_ (by omega) _ fun xs ds F2 H2 t2 s i2 l2 tl p => by
    show spG m ok Pf ((V.ref S.1 :: xs) ++ []) H2 Q E
    rw [List.append_nil]
    exact ⟨S, F2, t2, xs, ds, rfl, i2, tl, hok ds p, by omega, fun y d F3 H3 t3 s3 i3 l3 ty pf => q y d F3 H3 t3 (s.trans s3) i3 (by omega) ty ⟨ds, p, pf⟩⟩⟩
/-! statements -/
variable {DD : Ends} {tz : TS} {t : Nat}
theorem q_asg {i : Nat} (h : EvG S te σ F n P) (a : At S F H t) (lim : t + n < 2 ^ 40) (k : ∀ x d F1 H1 t1, Stg S F H F1 H1 → At S F1 H1 t1 → t1 ≤ t + n → Tl F1 x d → P d → tz DD (σ.set i (some x)) H1) :
    tSeq (tAsg te (gName i)) tz DD σ H := h F H t (Evl.Ex.refl _) a lim _ k
theorem s_asg {i : Nat} (h : EvG S te σ F n P) (a : At S F H t) (lim : t + n < 2 ^ 40) (k : ∀ x d F1 H1 t1, Stg S F H F1 H1 → At S F1 H1 t1 → t1 ≤ t + n → Tl F1 x d → P d → DD.nx (σ.set i (some x)) H1) :
    tAsg te (gName i) DD σ H := h F H t (Evl.Ex.refl _) a lim _ k
theorem s_ret (h : EvG S te σ F n P) (a : At S F H t) (lim : t + n < 2 ^ 40) (k : ∀ x d F1 H1 t1, Stg S F H F1 H1 → At S F1 H1 t1 → t1 ≤ t + n → Tl F1 x d → P d → DD.rt x H1) : tRet te DD σ H := h F H t (Evl.Ex.refl _) a lim _ k
end
end Gn
set_option Elab.async false
set_option linter.all false
set_option maxRecDepth 100000
set_option maxHeartbeats 4000000
set_option exponentiation.threshold 10000
namespace Lw
open PySem PySem.Spec PyProof.Rows L2
abbrev sShuf : Stmt := topS 29
theorem scShuf : FnScope ["_law_source_here", "_law_values", "_law_result", "_law_value"] ["_law_source_here", "_law_values"] (defScope sShuf) := ⟨rfl, rfl, rfl, by decide +kernel, rfl, by decide +kernel, by decide +kernel⟩
/-- a list of at most 30, in another order -/
abbrev spShuf : Sp := Gn.spG 30 (fun ds => ∃ es, ds = [.list es] ∧ es.length ≤ 30) fun ds d => ∃ es fs, ds = [.list es] ∧ d = .list fs ∧ fs.Perm es
section
variable {P : Program} {w : World} {K : PySem.W.Frag} {mg : Str → Option Value} {base : Heap}
theorem insert_all {F : Hp} {vs : List V} {ds : List PyData} (h : Dl.TlAll F vs ds) {v : V} {d : PyData} (t : Dl.Tl F v d) (k : Nat) : Dl.TlAll F (vs.take k ++ [v] ++ vs.drop k) (ds.take k ++ [d] ++ ds.drop k) := ((h.take k).append (.cons t .nil)).append (h.drop k)
theorem insert_perm {α : Type} (l : List α) (k : Nat) (x : α) : (l.take k ++ [x] ++ l.drop k).Perm (x :: l) := by
  rw [List.append_assoc]
  have z := List.perm_middle (a := x) (l₁ := l.take k) (l₂ := l.drop k)
  rw [List.take_append_drop] at z
  exact z
theorem ok_shuf {f fD : Addr} {fd fdD : FuncData} (F : Fun K "_law_shuffle" "_law_shuffle" sShuf f fd) (FD : Fun K "_law_draw" "_law_draw" sDraw fD fdD) (bD : Binds K fdD ["_law_source_here", "_law_limit"] []) (gD : mg "_law_draw" = some (.ref fD)) (GD : FnOk P w K mg base CX0 1 fD fdD ["_law_source_here", "_law_limit"] (spDraw K))
    (ml : mg "len" = none) : FnOk P w K mg base CX0 2 f fd ["_law_source_here", "_law_values"] spShuf := by
  refine F.ok scShuf (fun vs H Q E h => ?_) (fun cdv A outer s H vs Q E hr h => ?_)
  · obtain ⟨S, F, t, ws, ds, rfl, _, ht, ⟨es, rfl, _⟩, _⟩ := h
    exact congrArg Nat.succ ht.length
  · obtain ⟨S, F, t, ws, ds, rfl, at0, ht, ⟨es, rfl, few⟩, lim, q⟩ := h
    have nd := scShuf.nd
    refine ⟨_, pss_cons (ps_set (i := 2) nd rfl (.inl rfl) (pe_lst pa_nil))
      (pss_cons (ps_for PassesOwn.never rfl (pi_list (pv 1)) (pg_name (i := 3) nd rfl (.inl rfl)) (pss_one (ps_expr (pe_bm PySem.F.plainAttrs_list PySem.F.slot_list_insert PySem.F.type_list_insert mt_insert (pv 2)
        (pa_cons (pe_call GD hr (by rfl) gD FD.kp bD .nil pass0 (pa_cons (pv 0) (pa_cons (pe_op op_add (pe_callB call_len_seq (by rfl) ml PySem.boot_len (pa_cons (pv 2) pa_nil)) pe_int) pa_nil))) (pa_cons (pv 3) pa_nil))))))
      (pss_one (ps_ret (pv 2)))), ?_⟩
    cases ht with
    | @cons x _ _ _ hx tl =>
    cases tl
    cases hx with
    | @lst l xs _ h1 t1 =>
    have len := t1.length
    refine ⟨by show 0 ≤ sizeLine; exact Nat.zero_le _, fun p hp => ?_⟩
    have fp : F p = none := Evl.fresh_back at0.i hp
    have np1 : p ≠ S.1 := fun z => (Gn.Src.dom at0.src).1 (z ▸ hp)
    have np2 : p ≠ S.2 := fun z => (Gn.Src.dom at0.src).2 (z ▸ hp)
    refine ⟨_, rfl, l, rfl, ⟨xs, .inl (.inl (Evl.Ex.new (o := _) hp _ _ (at0.i _ _ h1)))⟩, ?_⟩
    -- between two turns
    refine for_list (K := K) (a := l) (xs := xs) (fun i σ H' => ∃ y ys fs, σ = [some (.ref S.1), some (.ref l), some (.ref p), y] ∧ H' p = some (.lst ys) ∧ Dl.TlAll F ys fs ∧ fs.Perm (es.take i) ∧ But S H H' ∧ (∀ b, H b ≠ none → H' b ≠ none) ∧ Gn.At S F H' (t + i))
      ⟨none, [], [], rfl, upd_same, .nil, by rw [List.take_zero], But.of (Evl.Ex.new hp), Gn.ex_dom (Evl.Ex.new hp), at0.step (.hid at0.i hp)⟩ (fun i σ H' _ hP => ?_) (fun i v σ H' hi hP => ?_) (fun σ H' hP => ?_)
    · obtain ⟨y, ys, fs, rfl, _, _, _, _, _, a⟩ := hP
      exact .inl (.inl (a.i _ _ h1))
    · obtain ⟨y, ys, fs, rfl, hp', ty, pm, but, dom, a⟩ := hP
      have hil : i < xs.length := (List.getElem?_eq_some_iff.mp hi).1
      have pl : fs.length = i := by rw [pm.length_eq, List.length_take]; omega
      have yl : ys.length = i := by rw [ty.length]; exact pl
      obtain ⟨d, hd, td⟩ := t1.getV hi
      refine ⟨_, rfl, .inl ⟨rfl, _, .inl (.inl hp')⟩, _, rfl, _, rfl, _, _, rfl, .inl (.inl (.inl hp')), ys.length, 1, rfl, rfl, S, t + i, (ys.length : Int) + 1, rfl, a.src, by omega, by omega, ?_, fun k H2 but2 src2 k0 kL => ?_⟩
      · have z : ((ys.length : Int) + 1).natAbs < 2 ^ 40 := by omega
        exact Nat.lt_of_lt_of_le z (Nat.pow_le_pow_right (by decide) (by decide))
      · obtain ⟨s3, a3⟩ := Gn.Stg.draw a but2 src2
        have hp2 : H2 p = some (.lst ys) := but2 p _ np1 np2 hp'
        have sL := sizeLine_eq
        refine ⟨_, rfl, p, ys, k, v, rfl, rfl, hp2, by omega, k0, by omega, ?_⟩
        have exM : Ex F (upd H2 p (.lst (ys.take k.toNat ++ [v] ++ ys.drop k.toNat))) := fun b o hb => by
          have nb : b ≠ p := fun z => by rw [z, fp] at hb; cases hb
          rw [upd_ne nb]
          exact a3.i b o hb
        refine ⟨_, _, fs.take k.toNat ++ [d] ++ fs.drop k.toNat, rfl, upd_same, insert_all ty td _, ?_, fun b o b1 b2 hb => ?_, fun b hb => ?_, exM, a3.hid, ?_⟩
        · refine (insert_perm fs _ d).trans ?_
          rw [List.take_add_one, hd]
          exact (List.Perm.cons d pm).trans (List.perm_append_comm (l₁ := [d]))
        · have nb : b ≠ p := fun z => by rw [z, hp] at hb; cases hb
          rw [upd_ne nb]
          exact but2 b o b1 b2 (but b o b1 b2 hb)
        · have nb : b ≠ p := fun z => hb (z ▸ hp)
          rw [upd_ne nb]
          exact s3.d b (dom b hb)
        · obtain ⟨ne, c1, ns, cc, c2⟩ := a3.src
          exact ⟨ne, by rw [upd_ne (Ne.symm np1)]; exact c1, ns, cc, by rw [upd_ne (Ne.symm np2)]; exact c2⟩
    · obtain ⟨y, ys, fs, rfl, hp', ty, pm, but, dom, a⟩ := hP
      have full : es.take xs.length = es := by rw [len, List.take_length]
      rw [full] at pm
      have exF : Ex F (upd F p (.lst ys)) := Evl.Ex.new fp
      have st : Gn.Stg S F H (upd F p (.lst ys)) H' := ⟨exF, but, fun b o hb => ?_, fun b h1 h2 => ?_, dom⟩
      · refine ⟨_, rfl, q _ (.list fs) (upd F p (.lst ys)) H' (t + xs.length) st ⟨st.i, ⟨?_, ?_⟩, a.src⟩ (by omega) (.lst upd_same (ty.mono exF)) ⟨es, fs, rfl, rfl, pm⟩⟩
        · rw [upd_ne (Ne.symm np1)]
          exact a.hid.1
        · rw [upd_ne (Ne.symm np2)]
          exact a.hid.2
      · by_cases z : b = p
        · rw [z, upd_same] at hb
          cases hb
          rw [z]
          exact hp'
        · rw [upd_ne z] at hb
          exact a.i b o hb
      · have nb : b ≠ p := fun z => h2 (z ▸ hp)
        rw [upd_ne nb]
        exact h1
end
end Lw
set_option Elab.async false
set_option linter.all false
set_option maxRecDepth 100000
set_option maxHeartbeats 4000000
set_option exponentiation.threshold 10000
/-! comprehensions that draw; lists that are owned -/
namespace Gn
open PySem PySem.Spec PyProof.Rows L2 Lw
section
variable {S : Addr × Addr} {F F0 H H0 : Hp} {t : Nat} {p : Addr} {o : HO} {xs : List V}
theorem Stg.mut (s : Stg S F0 H0 F H) (h0 : H0 p = none) (fp : F p = none) : Stg S F0 H0 F (upd H p o) :=
  ⟨s.f, fun b u b1 b2 hb => by
    rw [upd_ne (fun z => by rw [z, h0] at hb; cases hb)]
    exact s.h b u b1 b2 hb, fun b u hb => by
    rw [upd_ne (fun z => by rw [z, fp] at hb; cases hb)]
    exact s.i b u hb, s.n, fun b hb => by
    rw [upd_ne (fun z => hb (by rw [z]; exact h0))]
    exact s.d b hb⟩
theorem At.mut (a : At S F H t) (fp : F p = none) (n1 : p ≠ S.1) (n2 : p ≠ S.2) : At S F (upd H p o) t := by
  obtain ⟨ne, c1, ns, cc, c2⟩ := a.src
  exact ⟨fun b u hb => by
    rw [upd_ne (fun z => by rw [z, fp] at hb; cases hb)]
    exact a.i b u hb, a.hid, ne, by rw [upd_ne (Ne.symm n1)]; exact c1, ns, cc, by rw [upd_ne (Ne.symm n2)]; exact c2⟩
theorem Stg.own (s : Stg S F0 H0 F H) (h0 : H0 p = none) (fp : F p = none) (hp : H p = some o) : Stg S F0 H0 (upd F p o) H :=
  ⟨s.f.trans (Evl.Ex.new fp), s.h, fun b u hb => by
    by_cases z : b = p
    · rw [z, upd_same] at hb
      cases hb
      rw [z]
      exact hp
    · rw [upd_ne z] at hb
      exact s.i b u hb, fun b h1 h2 => by
    rw [upd_ne (fun z => h2 (by rw [z]; exact h0))]
    exact s.n b h1 h2, s.d⟩
theorem At.own (a : At S F H t) (n1 : p ≠ S.1) (n2 : p ≠ S.2) (fp : F p = none) (hp : H p = some o) : At S (upd F p o) H t :=
  ⟨fun b u hb => by
    by_cases z : b = p
    · rw [z, upd_same] at hb
      cases hb
      rw [z]
      exact hp
    · rw [upd_ne z] at hb
      exact a.i b u hb, ⟨by rw [upd_ne (Ne.symm n1)]; exact a.hid.1, by rw [upd_ne (Ne.symm n2)]; exact a.hid.2⟩, a.src⟩
theorem At.apart (a : At S F H t) (hp : H p = none) : p ≠ S.1 ∧ p ≠ S.2 := ⟨fun z => (Src.dom a.src).1 (z ▸ hp), fun z => (Src.dom a.src).2 (z ▸ hp)⟩
end
/-- between two turns of a comprehension that draws -/
def CG (S : Addr × Addr) (F0 H0 : Hp) (c t0 : Nat) (P : D → Prop) (p : Addr) (i : Nat) (H : Hp) : Prop := H0 p = none ∧ ∃ F xs ds t, Stg S F0 H0 F H ∧ At S F H t ∧ t ≤ t0 + i * c ∧ F p = none ∧ H p = some (.lst xs) ∧ TlAll F xs ds ∧ ds.length = i ∧ ∀ d ∈ ds, P d
section
variable {K : PySem.W.Frag} {S : Addr × Addr} {σ : L2.St} {F G H : Hp} {ta : TA} {te tb : TE} {n m : Nat} {P P2 P3 : D → Prop} {Ps : List D → Prop} {d : D} {ds : List D}
theorem lcRG {j c N : Nat} {vs : List Nat} (h : EvGA S ta σ F m Ps) (hP : ∀ ds, Ps ds → ∃ k : Int, ds = [.int k] ∧ 0 ≤ k ∧ k ≤ (N : Int)) (hN : N ≤ 1000) (hw : ∀ x, wipe ((wipe σ vs).set j (some x)) vs = wipe σ vs)
    (he : ∀ (i : Nat) G, Ex F G → i < N → EvG S te ((wipe σ vs).set j (some (.int (i : Int)))) G c P) :
    EvG S (tLc (iRng1 ta) (gName j) tYes te vs) σ F (m + N * c) (fun d => ∃ (k : Int) (es : List D), Ps [.int k] ∧ d = .list es ∧ es.length = k.toNat ∧ ∀ e ∈ es, P e) := fun F0 H0 t a at0 lim Q q =>
  h F0 H0 t a at0 (by omega) _ fun xs ds F1 H1 t1 s1 a1 l1 tl ps => by
    obtain ⟨k, rfl, k0, kN⟩ := hP ds ps
    cases tl with
    | cons hv tl' =>
    cases tl'
    cases hv
    refine ⟨k, rfl, by omega, by omega, fun p hp => ?_⟩
    obtain ⟨n1, n2⟩ := At.apart a1 hp
    have st0 : Dl.Stp F1 H1 F1 (upd H1 p (.lst [])) := .hid a1.i hp
    refine lc_range (lo := 0) (n := k.toNat) (CG S F1 H1 c t1 P p) ⟨hp, F1, [], [], t1, .of st0, a1.step st0, by omega, Evl.fresh_back a1.i hp, upd_same, .nil, rfl, fun d hd => (by cases hd)⟩ (fun i H' hi w => ?_) (fun H' w => ?_)
    · have e0 : (0 : Int) + (i : Int) = (i : Int) := Int.zero_add _
      rw [e0]
      refine ⟨hw _, ?_⟩
      obtain ⟨_, F2, xs, es, t2, s2, a2, l2, fp, hp2, tes, len, pes⟩ := w
      show te _ H' _
      have hic : (i + 1) * c ≤ N * c := Nat.mul_le_mul_right c (by omega)
      have hc1 : (i + 1) * c = i * c + c := Nat.succ_mul i c
      refine he i F2 ((a.trans s1.f).trans s2.f) (by omega) F2 H' t2 (Evl.Ex.refl _) a2 (by omega) _ fun y d F3 H3 t3 s3 a3 l3 ty pd => ?_
      have hp3 : H3 p = some (.lst xs) := s3.h p _ n1 n2 hp2
      have fp3 : F3 p = none := s3.n p fp (by rw [hp2]; exact fun z => (nomatch z))
      refine ⟨xs, hp3, Evl.sz_lt (by rw [tes.length, len]; omega), hp, F3, xs ++ [y], es ++ [d], t3, (s2.trans s3).mut hp fp3, a3.mut fp3 n1 n2, by omega, fp3, upd_same, (tes.mono s3.f).append (.cons ty .nil), by rw [List.length_append, len]; rfl, fun e he => ?_⟩
      rcases List.mem_append.mp he with z | z
      · exact pes e z
      · rw [List.mem_singleton.mp z]
        exact pd
    · obtain ⟨_, F2, xs, es, t2, s2, a2, l2, fp, hp2, tes, len, pes⟩ := w
      have hkc : k.toNat * c ≤ N * c := Nat.mul_le_mul_right c (by omega)
      exact q _ (.list es) (upd F2 p (.lst xs)) H' t2 (s1.trans (s2.own hp fp hp2)) (a2.own n1 n2 fp hp2) (by omega) (.lst upd_same (tes.mono (Evl.Ex.new fp))) ⟨k, es, ps, rfl, len, pes⟩
/-- a new list that one owns: F does not know it -/
def EvO (te : TE) (σ : L2.St) (F : Hp) (ds : List D) : Prop := ∀ F1 H1, Ex F F1 → Ex F1 H1 → ∀ Q : VK, (∀ p xs F2 H2, Dl.Stp F1 H1 F2 H2 → H1 p = none → F2 p = none → H2 p = some (.lst xs) → TlAll F2 xs ds → Q (.ref p) H2) → te σ H1 Q
theorem lcR1o {t : TT} {j : Nat} {vs : List Nat} {n : Int} (f : Nat → Bool) (g : Nat → D) (h : Dl.EvA ta σ F [.int n]) (hn : 0 ≤ n ∧ n ≤ 40000) (hw : ∀ x, wipe ((wipe σ vs).set j (some x)) vs = wipe σ vs)
    (ht : ∀ (i : Nat) G, Ex F G → (i : Int) < n → Dl.EvT t ((wipe σ vs).set j (some (.int (i : Int)))) G (f i)) (he : ∀ (i : Nat) G, Ex F G → (i : Int) < n → f i = true → Dl.Ev te ((wipe σ vs).set j (some (.int (i : Int)))) G (g i)) :
    EvO (tLc (iRng1 ta) (gName j) t te vs) σ F (Dl.kept n.toNat f g) := fun F0 H0 a b Q q => h F0 H0 a b _ fun xs F1 H1 s1 hx => by
  cases hx with
  | cons hv tl =>
    cases tl
    cases hv
    refine ⟨n, rfl, by omega, by omega, fun p hp => lc_range (lo := 0) (n := n.toNat) (Dl.CW F1 H1 f g p) (Dl.cw_start s1.i hp) (fun i H' hi w => ?_) (fun H' w => ?_)⟩
    · have e0 : (0 : Int) + (i : Int) = (i : Int) := Int.zero_add _
      rw [e0]
      exact ⟨hw _, Dl.cw_turn w (by omega) (fun G eg => ht i G ((a.trans s1.f).trans eg) (by omega)) (fun G eg hf => he i G ((a.trans s1.f).trans eg) (by omega) hf)⟩
    · obtain ⟨_, F2, ys, e0, e1, e2, n0, fp, h1, t1⟩ := w
      have st : Dl.Stp F1 H1 F2 H' := ⟨e0, e2, e1, n0⟩
      have hp0 : H0 p = none := by
        cases z : H0 p with
        | none => rfl
        | some o =>
          rw [s1.h p o z] at hp
          cases hp
      exact q p ys F2 H' (s1.trans st) hp0 fp h1 t1
/-- over a list that one owns -/
theorem lcH {t : TT} {tl : TE} {j l : Nat} {vs : List Nat} {a : Addr} {xs : List V} (f : Nat → Bool) (g : Nat → D) (hl : σ[l]? = some (some (.ref a))) (ha : H a = some (.lst xs)) (tx : TlAll F xs ds) (i0 : Ex F H) (hz : ds.length ≤ 40000) (hw : ∀ x, wipe ((wipe σ vs).set j (some x)) vs = wipe σ vs)
    (ht : ∀ (i : Nat) (x : V) (d : D) G, Ex F G → ds[i]? = some d → Tl G x d → Dl.EvT t ((wipe σ vs).set j (some x)) G (f i)) (he : ∀ (i : Nat) (x : V) (d : D) G, Ex F G → ds[i]? = some d → Tl G x d → f i = true → Dl.Ev te ((wipe σ vs).set j (some x)) G (g i)) (Q : VK)
    (q : ∀ x F2 H2, Dl.Stp F H F2 H2 → Tl F2 x (.list (Dl.kept ds.length f g)) → Q x H2) : tLc (iList K (tVar l)) (gName j) t te vs σ H Q := by
  refine ⟨_, hl, a, rfl, ⟨xs, .inl (.inl ha)⟩, fun p hp => lc_list (xs := xs) (Dl.CW F H f g p) (Dl.cw_start i0 hp) (fun i H' _ w => ?_) (fun i x H' hi w => ?_) (fun H' w => ?_)⟩
  · obtain ⟨_, F2, ys, e0, e1, e2, _⟩ := w
    exact .inl (.inl (e2 _ _ ha))
  · have len := tx.length
    have hil : i < xs.length := (List.getElem?_eq_some_iff.mp hi).1
    obtain ⟨d, hd, td⟩ := tx.getV hi
    exact ⟨hw x, Dl.cw_turn w (by omega) (fun G eg => ht i x d G eg hd (td.mono eg)) (fun G eg hf => he i x d G eg hd (td.mono eg) hf)⟩
  · rw [tx.length] at w
    obtain ⟨F2, s2, t2⟩ := Dl.cw_end w
    exact q _ F2 H' s2 t2
/-! tuple(list), list(tuple) -/
def rTupOf (K : PySem.W.Frag) : List V → Hp → VK → Prop := fun xs H Q => ∃ p ys, xs = [.ref p] ∧ ((SqL K H p ys ∧ ∀ l, H l = none → Q (.ref l) (upd H l (.tup ys))) ∨ (SqT K H p ys ∧ Q (.ref p) H))
def rListOf (K : PySem.W.Frag) : List V → Hp → VK → Prop := fun xs H Q => ∃ p ys, xs = [.ref p] ∧ (SqL K H p ys ∨ SqT K H p ys) ∧ ∀ l, H l = none → Q (.ref l) (upd H l (.lst ys))
theorem tupOf : Dl.RC (rTupOf K) [.list ds] (.tuple ds) := fun F1 H1 e xs hx Q q => by
  cases hx with
  | cons hv tl =>
    cases tl
    cases hv with
    | @lst a ys _ h1 t1 => exact ⟨a, ys, rfl, .inl ⟨.inl (.inl (e _ _ h1)), fun l hl => q _ _ _ (.new e hl) (.tup upd_same (t1.mono (Evl.Ex.new (Evl.fresh_back e hl))))⟩⟩
theorem listOf : Dl.RC (rListOf K) [.tuple ds] (.list ds) := fun F1 H1 e xs hx Q q => by
  cases hx with
  | cons hv tl =>
    cases tl
    cases hv with
    | @tup a ys _ h1 t1 => exact ⟨a, ys, rfl, .inr (.inl (.inl (e _ _ h1))), fun l hl => q _ _ _ (.new e hl) (.lst upd_same (t1.mono (Evl.Ex.new (Evl.fresh_back e hl))))⟩
end
end Gn
set_option Elab.async false
set_option linter.all false
set_option maxRecDepth 100000
set_option maxHeartbeats 4000000
/-! what _law_items builds, told apart from how: places, kinds that wait, what is built -/
namespace Lw
open PySem PySem.Spec PyProof.Rows L2
abbrev Plc := Option Nat × Nat
def encP : Plc → PyData
  | (none, j) => .tuple [.str "", .int (j : Int)]
  | (some m, j) => .tuple [.int (m : Int), .int (j : Int)]
structure Blt where
  kind : Str
  slots : List Str
  plc : Plc
def encB (b : Blt) : PyData := .tuple [.str b.kind, .tuple (b.slots.map .str), encP b.plc]
structure ISt where
  os : List Plc
  ac : List Str
  bs : List Blt
def fillS (n k : Nat) : List Plc := (List.range k).map fun j => (some n, j)
inductive IStep (ks : List Str) (limit : Nat) : ISt → ISt → Prop
  | mk (st : ISt) (i : Nat) (pl : Plc) (kd : Str) (sl : List Str) (h1 : st.os[i]? = some pl) (h2 : st.ac[i]? = some kd) (h3 : sl.length ≤ 4) (h4 : sl.length + st.bs.length + st.os.length ≤ limit)
      (h5 : (∀ k ∈ sl, k ∈ ks) ∨ ∃ b ∈ st.bs, b.kind = kd ∧ b.slots = sl) : IStep ks limit st ⟨st.os.eraseIdx i ++ fillS st.bs.length sl.length, st.ac.eraseIdx i ++ sl, st.bs ++ [⟨kd, sl, pl⟩]⟩
inductive Reach (ks : List Str) (limit : Nat) (roots : List Str) : ISt → Prop
  | start : Reach ks limit roots ⟨(List.range roots.length).map fun j => (none, j), roots, []⟩
  | step {a b : ISt} : Reach ks limit roots a → IStep ks limit a b → Reach ks limit roots b
theorem Reach.lens {ks : List Str} {limit : Nat} {roots : List Str} (hr : roots.length ≤ limit) {st : ISt} (h : Reach ks limit roots st) : st.os.length = st.ac.length ∧ st.bs.length + st.os.length ≤ limit ∧ ∀ b ∈ st.bs, b.slots.length ≤ 4 := by
  induction h with
  | start => exact ⟨by simp, by simpa using hr, fun b hb => (by cases hb)⟩
  | step r s ih =>
    obtain ⟨i1, i2, i3⟩ := ih
    cases s with
    | mk i pl kd sl h1 h2 h3 h4 h5 =>
      have l1 : i < _ := (List.getElem?_eq_some_iff.mp h1).1
      refine ⟨?_, ?_, fun b hb => ?_⟩
      · show (List.eraseIdx _ i ++ fillS _ _).length = (List.eraseIdx _ i ++ sl).length
        rw [List.length_append, List.length_append, List.length_eraseIdx, List.length_eraseIdx, i1]
        unfold fillS
        rw [List.length_map, List.length_range]
      · show (_ ++ [_]).length + (List.eraseIdx _ i ++ fillS _ _).length ≤ limit
        rw [List.length_append, List.length_append, List.length_eraseIdx_of_lt l1]
        unfold fillS
        rw [List.length_map, List.length_range, List.length_singleton]
        omega
      · rcases List.mem_append.mp hb with z | z
        · exact i3 b z
        · rw [List.mem_singleton.mp z]
          exact h3
theorem layP : ∀ os : List Plc, PyData.canLayAll0 (os.map encP) = true
  | [] => by simp [PyData.canLayAll0]
  | (none, j) :: os => by
    have z := layP os
    simp only [List.map_cons, encP, PyData.canLayAll0, PyData.canLay0, z, Bool.and_true]
    decide +kernel
  | (some m, j) :: os => by
    have z := layP os
    simp only [List.map_cons, encP, PyData.canLayAll0, PyData.canLay0, z, Bool.and_true]
theorem depthP : ∀ os : List Plc, PyData.depthAll (os.map encP) ≤ 2
  | [] => by simp [PyData.depthAll]
  | (none, j) :: os => by
    have z := depthP os
    simp only [List.map_cons, encP, PyData.depthAll, PyData.depth]
    omega
  | (some m, j) :: os => by
    have z := depthP os
    simp only [List.map_cons, encP, PyData.depthAll, PyData.depth]
    omega
theorem shapedP (os : List Plc) : SeqAt.shaped (.list (os.map encP)) = true := by
  unfold SeqAt.shaped
  rw [Bool.and_eq_true]
  refine ⟨by simp only [PyData.canLay0]; exact layP os, decide_eq_true ?_⟩
  have h := depthP os
  simp only [PyData.depth]
  omega
theorem eqvNilD (ds : List PyData) : PyData.eqv (.list ds) (.list []) = ds.isEmpty := by
  cases ds <;> simp [PyData.eqv, PyData.eqvAll]
theorem strs_ex {ks : List Str} : ∀ {es : List PyData}, (∀ e ∈ es, ∃ z, z ∈ ks ∧ e = .str z) → ∃ zs : List Str, es = zs.map .str ∧ ∀ z ∈ zs, z ∈ ks
  | [], _ => ⟨[], rfl, fun z h => (by cases h)⟩
  | e :: es, h => by
    obtain ⟨z, hz, rfl⟩ := h e List.mem_cons_self
    obtain ⟨zs, rfl, hs⟩ := strs_ex fun e he => h e (List.mem_cons_of_mem _ he)
    refine ⟨z :: zs, rfl, fun y hy => ?_⟩
    rcases List.mem_cons.mp hy with q | q
    · rw [q]
      exact hz
    · exact hs y q
end Lw
set_option Elab.async false
set_option linter.all false
set_option maxRecDepth 100000
set_option maxHeartbeats 4000000
set_option exponentiation.threshold 10000
namespace Lw
open PySem PySem.Spec PyProof.Rows L2
/-- three lists of one's own, apart from all that stood at the start -/
structure Tri (S : Addr × Addr) (H0 : Hp) (p1 p2 p3 : Addr) : Prop where
  n1 : H0 p1 = none
  n2 : H0 p2 = none
  n3 : H0 p3 = none
  d12 : p1 ≠ p2
  d13 : p1 ≠ p3
  d23 : p2 ≠ p3
  a1 : p1 ≠ S.1 ∧ p1 ≠ S.2
  a2 : p2 ≠ S.1 ∧ p2 ≠ S.2
  a3 : p3 ≠ S.1 ∧ p3 ≠ S.2
structure Own3 (S : Addr × Addr) (F0 H0 : Hp) (p1 p2 p3 : Addr) (F H : Hp) (t : Nat) (os : List Plc) (ac : List Str) (bs : List Blt) : Prop where
  sg : Gn.Stg S F0 H0 F H
  at_ : Gn.At S F H t
  f1 : F p1 = none
  f2 : F p2 = none
  f3 : F p3 = none
  h1 : ∃ xs, H p1 = some (.lst xs) ∧ Dl.TlAll F xs (os.map encP)
  h2 : H p2 = some (.lst (ac.map V.str))
  h3 : ∃ ys, H p3 = some (.lst ys) ∧ Dl.TlAll F ys (bs.map encB)
section
variable {S : Addr × Addr} {F0 H0 F H F1 H1 : Hp} {p1 p2 p3 : Addr} {t t1 : Nat} {os os' : List Plc} {ac ac' : List Str} {bs bs' : List Blt}
theorem ne_some {H : Hp} {p : Addr} {o : HO} (h : H p = some o) : H p ≠ none := by
  rw [h]
  exact fun z => nomatch z
theorem Own3.go (T : Tri S H0 p1 p2 p3) (o : Own3 S F0 H0 p1 p2 p3 F H t os ac bs) (s : Gn.Stg S F H F1 H1) (a : Gn.At S F1 H1 t1) : Own3 S F0 H0 p1 p2 p3 F1 H1 t1 os ac bs := by
  obtain ⟨xs, e1, x1⟩ := o.h1
  obtain ⟨ys, e3, x3⟩ := o.h3
  exact ⟨o.sg.trans s, a, s.n _ o.f1 (ne_some e1), s.n _ o.f2 (ne_some o.h2), s.n _ o.f3 (ne_some e3), ⟨xs, s.h _ _ T.a1.1 T.a1.2 e1, x1.mono s.f⟩, s.h _ _ T.a2.1 T.a2.2 o.h2, ⟨ys, s.h _ _ T.a3.1 T.a3.2 e3, x3.mono s.f⟩⟩
theorem Own3.stp (T : Tri S H0 p1 p2 p3) (o : Own3 S F0 H0 p1 p2 p3 F H t os ac bs) (s : Dl.Stp F H F1 H1) : Own3 S F0 H0 p1 p2 p3 F1 H1 t os ac bs := o.go T (.of s) (o.at_.step s)
theorem Own3.set1 {xs : List V} (T : Tri S H0 p1 p2 p3) (o : Own3 S F0 H0 p1 p2 p3 F H t os ac bs) (x : Dl.TlAll F xs (os'.map encP)) : Own3 S F0 H0 p1 p2 p3 F (upd H p1 (.lst xs)) t os' ac bs := by
  obtain ⟨ys, e3, x3⟩ := o.h3
  exact ⟨o.sg.mut T.n1 o.f1, o.at_.mut o.f1 T.a1.1 T.a1.2, o.f1, o.f2, o.f3, ⟨xs, upd_same, x⟩, by rw [upd_ne (Ne.symm T.d12)]; exact o.h2, ⟨ys, by rw [upd_ne (Ne.symm T.d13)]; exact e3, x3⟩⟩
theorem Own3.set2 (T : Tri S H0 p1 p2 p3) (o : Own3 S F0 H0 p1 p2 p3 F H t os ac bs) {vs : List V} (e : vs = ac'.map V.str) : Own3 S F0 H0 p1 p2 p3 F (upd H p2 (.lst vs)) t os ac' bs := by
  subst e
  obtain ⟨xs, e1, x1⟩ := o.h1
  obtain ⟨ys, e3, x3⟩ := o.h3
  exact ⟨o.sg.mut T.n2 o.f2, o.at_.mut o.f2 T.a2.1 T.a2.2, o.f1, o.f2, o.f3, ⟨xs, by rw [upd_ne T.d12]; exact e1, x1⟩, upd_same, ⟨ys, by rw [upd_ne (Ne.symm T.d23)]; exact e3, x3⟩⟩
theorem Own3.set3 {ys : List V} (T : Tri S H0 p1 p2 p3) (o : Own3 S F0 H0 p1 p2 p3 F H t os ac bs) (x : Dl.TlAll F ys (bs'.map encB)) : Own3 S F0 H0 p1 p2 p3 F (upd H p3 (.lst ys)) t os ac bs' := by
  obtain ⟨xs, e1, x1⟩ := o.h1
  exact ⟨o.sg.mut T.n3 o.f3, o.at_.mut o.f3 T.a3.1 T.a3.2, o.f1, o.f2, o.f3, ⟨xs, by rw [upd_ne T.d13]; exact e1, x1⟩, by rw [upd_ne T.d23]; exact o.h2, ⟨ys, upd_same, x⟩⟩
end
theorem erase_all {F : Hp} : ∀ {vs : List V} {ds : List PyData} (i : Nat), Dl.TlAll F vs ds → Dl.TlAll F (vs.eraseIdx i) (ds.eraseIdx i)
  | _, _, _, .nil => .nil
  | _, _, 0, .cons h t => t
  | _, _, i + 1, .cons h t => .cons h (erase_all i t)
theorem erase_map {α β : Type} (f : α → β) : ∀ (l : List α) (i : Nat), (l.eraseIdx i).map f = (l.map f).eraseIdx i
  | [], _ => rfl
  | _ :: _, 0 => rfl
  | x :: l, i + 1 => congrArg (f x :: ·) (erase_map f l i)
theorem lay_strs {ks : List Str} (h : ∀ k ∈ ks, PyData.canLay0 (.str k) = true) : ∀ {zs : List Str}, (∀ z ∈ zs, z ∈ ks) → PyData.canLayAll0 (zs.map .str) = true
  | [], _ => by simp [PyData.canLayAll0]
  | z :: zs, hz => by
    have i := lay_strs h fun y hy => hz y (List.mem_cons_of_mem _ hy)
    simp only [List.map_cons, PyData.canLayAll0, h z (hz z List.mem_cons_self), i, Bool.and_self]
theorem depth_strs : ∀ zs : List Str, PyData.depthAll (zs.map PyData.str) ≤ 1
  | [] => by simp [PyData.depthAll]
  | z :: zs => by
    have i := depth_strs zs
    simp only [List.map_cons, PyData.depthAll, PyData.depth]
    omega
theorem shaped_str {k : Str} (h : PyData.canLay0 (.str k) = true) : SeqAt.shaped (.str k) = true := by
  unfold SeqAt.shaped
  rw [h, Bool.true_and]
  rfl
theorem shaped_rows {ks : List Str} (h : ∀ k ∈ ks, PyData.canLay0 (.str k) = true) {rs : List (List Str)} (hr : ∀ r ∈ rs, ∀ z ∈ r, z ∈ ks) : SeqAt.shaped (.list (rs.map fun r => .tuple (r.map .str))) = true := by
  have c : PyData.canLayAll0 (rs.map fun r => PyData.tuple (r.map .str)) = true := by
    induction rs with
    | nil => simp [PyData.canLayAll0]
    | cons r rs ih =>
      have i := ih fun x hx => hr x (List.mem_cons_of_mem _ hx)
      have j := lay_strs h (hr r List.mem_cons_self)
      simp only [List.map_cons, PyData.canLayAll0, PyData.canLay0, j, i, Bool.and_self]
  have d : PyData.depthAll (rs.map fun r => PyData.tuple (r.map .str)) ≤ 2 := by
    clear c
    induction rs with
    | nil => simp [PyData.depthAll]
    | cons r rs ih =>
      have i := ih fun x hx => hr x (List.mem_cons_of_mem _ hx)
      have j := depth_strs r
      simp only [List.map_cons, PyData.depthAll, PyData.depth]
      omega
  unfold SeqAt.shaped
  rw [Bool.and_eq_true]
  refine ⟨by simp only [PyData.canLay0]; exact c, decide_eq_true ?_⟩
  simp only [PyData.depth]
  omega
theorem Reach.mem {ks : List Str} {limit : Nat} {roots : List Str} (hr : ∀ r ∈ roots, r ∈ ks) {st : ISt} (h : Reach ks limit roots st) : (∀ k ∈ st.ac, k ∈ ks) ∧ ∀ b ∈ st.bs, b.kind ∈ ks ∧ ∀ z ∈ b.slots, z ∈ ks := by
  induction h with
  | start => exact ⟨hr, fun b hb => (by cases hb)⟩
  | step r s ih =>
    obtain ⟨i1, i2⟩ := ih
    cases s with
    | mk i pl kd sl h1 h2 h3 h4 h5 =>
      have hsl : ∀ z ∈ sl, z ∈ ks := by
        rcases h5 with q | ⟨b, hb, _, q⟩
        · exact q
        · exact q ▸ (i2 b hb).2
      refine ⟨fun k hk => ?_, fun b hb => ?_⟩
      · rcases List.mem_append.mp hk with z | z
        · exact i1 k (List.mem_of_mem_eraseIdx z)
        · exact hsl k z
      · rcases List.mem_append.mp hb with z | z
        · exact i2 b z
        · rw [List.mem_singleton.mp z]
          exact ⟨i1 kd (List.mem_of_getElem? h2), hsl⟩
end Lw
namespace Gn
open PySem PySem.Spec PyProof.Rows L2 Lw
theorem q_asgO {te : TE} {σ : L2.St} {F H : Hp} {ds : List D} {DD : Ends} {tz : TS} {i : Nat} (h : EvO te σ F ds) (b : Ex F H) (k : ∀ p xs F1 H1, Dl.Stp F H F1 H1 → H p = none → F1 p = none → H1 p = some (.lst xs) → TlAll F1 xs ds → tz DD (σ.set i (some (.ref p))) H1) :
    tSeq (tAsg te (gName i)) tz DD σ H := h F H (Evl.Ex.refl _) b _ k
/-- a test behind which a name may be given anew; then the rest, of whatever is left -/
theorem if_rest {t : TT} {te : TE} {tz : TS} {DD : Ends} {σ : L2.St} {H : Hp} {j : Nat} (R : L2.St → Hp → Prop) (h : ∀ G : L2.St → Hp → Prop, (∀ σ' H', R σ' H' → G σ' H') → t σ H fun b H1 => if b = true then te σ H1 (fun x H2 => G (σ.set j (some x)) H2) else G σ H1)
    (k : ∀ σ' H', R σ' H' → tz DD σ' H') : tSeq (tIfS t (tAsg te (gName j)) tNext) tz DD σ H := h (tz DD) k
theorem gname_in {i : Nat} {x : V} {σ : L2.St} {H : Hp} {Q : L2.St → Hp → Prop} (h : Q (σ.set i (some x)) H) : gName i x σ H Q := h
theorem q_any {i : Nat} {te : TE} {tz : TS} {DD : Ends} {σ : L2.St} {H : Hp} (h : te σ H fun x H1 => tz DD (σ.set i (some x)) H1) : tSeq (tAsg te (gName i)) tz DD σ H := h
def rMin2 : List V → Hp → VK → Prop := fun xs H Q => ∃ i j, xs = [.int i, .int j] ∧ Q (.int (if j < i then j else i)) H
theorem min2 {i j : Int} : Dl.RC rMin2 [.int i, .int j] (.int (if j < i then j else i)) := fun F1 H1 e xs hx Q q => by
  cases hx with
  | cons h1 t =>
    cases t with
    | cons h2 t =>
      cases t
      cases h1
      cases h2
      exact ⟨i, j, rfl, q _ F1 H1 (.refl e) (.int _)⟩
end Gn
theorem Lw.rows_ex {R : List PySem.Str → Prop} : ∀ {ds : List PySem.PyData}, (∀ d ∈ ds, ∃ r, d = .tuple (r.map .str) ∧ R r) → ∃ es : List (List PySem.Str), ds = es.map (fun r => .tuple (r.map .str)) ∧ ∀ r ∈ es, R r
  | [], _ => ⟨[], rfl, fun z h => (by cases h)⟩
  | d :: ds, h => by
    obtain ⟨r, rfl, hr⟩ := h d List.mem_cons_self
    obtain ⟨es, rfl, hs⟩ := Lw.rows_ex fun e he => h e (List.mem_cons_of_mem _ he)
    refine ⟨r :: es, rfl, fun y hy => ?_⟩
    rcases List.mem_cons.mp hy with q | q
    · rw [q]
      exact hr
    · exact hs y q
set_option Elab.async false
set_option linter.all false
set_option maxRecDepth 100000
set_option maxHeartbeats 4000000
set_option exponentiation.threshold 10000
namespace Lw
open PySem PySem.Spec PyProof.Rows L2
abbrev sItems : Stmt := topS 30
abbrev nItems : List Str := ["_law_source_here", "_law_limit", "_law_kinds", "_law_roots", "_law_i", "_law_open_slots", "_law_accepted", "_law_built", "_law_at", "_law_place", "_law_kind", "_law_limit_here", "_law_slots", "_law_earlier", "_law_k", "_law_one"]
theorem scItems : FnScope nItems ["_law_source_here", "_law_limit", "_law_kinds"] (defScope sItems) := ⟨rfl, rfl, rfl, by decide +kernel, rfl, by decide +kernel, by decide +kernel⟩
section
variable {P : Program} {w : World} {K : PySem.W.Frag} {mg : Str → Option Value} {base : Heap}
abbrev okItems (ds : List PyData) : Prop := ∃ (limit : Nat) (ks : List Str), ds = [.int (limit : Int), .list (ks.map .str)] ∧ 4 ≤ limit ∧ limit ≤ 30 ∧ 0 < ks.length ∧ ks.length ≤ 30 ∧ ∀ k ∈ ks, PyData.canLay0 (.str k) = true
abbrev reItems (ds : List PyData) (d : PyData) : Prop := ∃ (limit : Nat) (ks roots : List Str) (st : ISt), ds = [.int (limit : Int), .list (ks.map .str)] ∧ d = .tuple [.tuple (roots.map .str), .list (st.bs.map encB)] ∧ Reach ks limit roots st ∧ st.os = [] ∧ 1 ≤ roots.length ∧ roots.length ≤ 4 ∧ ∀ r ∈ roots, r ∈ ks
abbrev spItems : Sp := Gn.spG 250 okItems reItems
theorem ok_items {f fD fP : Addr} {fd fdD fdP : FuncData} (F : Fun K "_law_items" "_law_items" sItems f fd) (FD : Fun K "_law_draw" "_law_draw" sDraw fD fdD) (bD : Binds K fdD ["_law_source_here", "_law_limit"] []) (gD : mg "_law_draw" = some (.ref fD)) (GD : FnOk P w K mg base CX0 1 fD fdD ["_law_source_here", "_law_limit"] (spDraw K))
    (FP : Fun K "_law_pick" "_law_pick" sPick fP fdP) (bP : Binds K fdP ["_law_source_here", "_law_values"] []) (gP : mg "_law_pick" = some (.ref fP)) (GP : FnOk P w K mg base CX0 2 fP fdP ["_law_source_here", "_law_values"] (spPick K))
    (ml : mg "len" = none) (mt : mg "tuple" = none) (mr : mg "range" = none) (mli : mg "list" = none) (mm : mg "min" = none) : FnOk P w K mg base CX0 3 f fd ["_law_source_here", "_law_limit", "_law_kinds"] spItems := by
  refine F.ok scItems (fun vs H Q E h => ?_) (fun cdv A outer s H vs Q E hr h => ?_)
  · obtain ⟨S, F, t, ws, ds, rfl, _, ht, ⟨limit, ks, rfl, _⟩, _⟩ := h
    exact congrArg Nat.succ ht.length
  · obtain ⟨S, F, t, ws, ds, rfl, at0, ht, ⟨limit, ks, rfl, L4, L30, k0, k30, lay⟩, lim, q⟩ := h
    have nd := scItems.nd
    have hr1 : Room 1 (A.deeper (envOfC "_law_items" (defScope sItems) s.heap.objs.size f cdv)) := hr.mono (by decide)
    have hr0 : Room 2 (A.deeper (envOfC "_law_items" (defScope sItems) s.heap.objs.size f cdv)) := hr.mono (by decide)
    refine ⟨_, pss_cons (ps_set (i := 3) nd rfl (.inl rfl) (pe_callTy call_tuple_of (by rfl) mt (by decide +kernel) (pa_cons
        (pe_lc (own := [("_law_k", 14)]) (g := gName 14) (tt := tYes) (te := tCall (spPick K) [] E0 (tCons (tVar 0) (tCons (tVar 2) tNil))) (by rfl) nd (pi_range1 (by rfl) mr (pa_cons (pe_op op_add pe_int (pe_call GD hr1 (by rfl) gD FD.kp bD .nil pass0 (pa_cons (pv 0) (pa_cons
            (pe_ix ix_list (pe_lst (pa_cons pe_int (pa_cons pe_int (pa_cons pe_int pa_nil)))) (pe_call GD hr1 (by rfl) gD FD.kp bD .nil pass0 (pa_cons (pv 0) (pa_cons pe_int pa_nil))) (fun _ _ => rfl)) pa_nil)))) pa_nil))
          (blkOk_by (own := [("_law_k", 14)]) (N := nItems) (sc := defScope sItems) (by decide +kernel)) (fun _ _ _ _ _ => pg_name (i := 14) nd rfl (.inl rfl)) (fun _ _ _ _ _ => pts_nil)
          (fun _ _ _ _ _ => pe_call GP hr0 (by rfl) gP FP.kp bP .nil pass0 (pa_cons (pv 0) (pa_cons (pv 2) pa_nil)))) pa_nil)))
      (pss_cons (ps_setLc (i := 5) (own := [("_law_i", 4)]) (g := gName 4) (tt := tYes) (te := tTup (tCons (tC (.str "")) (tCons (tVar 4) tNil))) (by rfl) nd rfl rfl (sw_true rfl (by rfl) (by rfl) (by rfl)) (pi_range1 (by rfl) mr (pa_cons (pe_callB call_len_seq (by rfl) ml PySem.boot_len (pa_cons (pv 3) pa_nil)) pa_nil))
          (blkOk_by (own := [("_law_i", 4)]) (N := nItems) (sc := defScope sItems) (by decide +kernel)) (fun _ _ _ _ _ => pg_name (i := 4) nd rfl (.inl rfl)) (fun _ _ _ _ _ => pts_nil) (fun _ _ _ _ _ => pe_tup (pa_cons pe_str (pa_cons (pv 4) pa_nil))))
      (pss_cons (ps_set (i := 6) nd rfl (.inl rfl) (pe_callTy call_list_of (by rfl) mli (by decide +kernel) (pa_cons (pv 3) pa_nil)))
      (pss_cons (ps_set (i := 7) nd rfl (.inl rfl) (pe_lst pa_nil))
      (pss_cons (ps_while PassesOwn.never (pt_cmpR (op_neD hr.units) (pv 5) (pe_lst pa_nil) (nomark _))
        (pss_cons (ps_set (i := 8) nd rfl (.inl rfl) (pe_call GD hr1 (by rfl) gD FD.kp bD .nil pass0 (pa_cons (pv 0) (pa_cons (pe_callB call_len_seq (by rfl) ml PySem.boot_len (pa_cons (pv 5) pa_nil)) pa_nil))))
        (pss_cons (ps_asg (pe_tup (pa_cons (pe_bm PySem.F.plainAttrs_list PySem.F.slot_list_pop PySem.F.type_list_pop mt_popAt (pv 5) (pa_cons (pv 8) pa_nil)) (pa_cons (pe_bm PySem.F.plainAttrs_list PySem.F.slot_list_pop PySem.F.type_list_pop mt_popAt (pv 6) (pa_cons (pv 8) pa_nil)) pa_nil)))
            (pg_tup rfl (pgs_cons (pg_name (i := 9) nd rfl (.inl rfl)) (pgs_cons (pg_name (i := 10) nd rfl (.inr rfl)) pgs_nil))))
        (pss_cons (ps_set (i := 11) nd rfl (.inr rfl) (pe_callB (call_min2 rfl) (by rfl) mm (by decide +kernel) (pa_cons pe_int (pa_cons (pe_op op_sub (pe_op op_sub (pe_op op_sub (pv 1) (pe_callB call_len_seq (by rfl) ml PySem.boot_len (pa_cons (pv 7) pa_nil))) (pe_callB call_len_seq (by rfl) ml PySem.boot_len (pa_cons (pv 5) pa_nil))) pe_int) pa_nil))))
        (pss_cons (ps_setLc (i := 12) (own := [("_law_k", 14)]) (g := gName 14) (tt := tYes) (te := tCall (spPick K) [] E0 (tCons (tVar 0) (tCons (tVar 2) tNil))) (by rfl) nd rfl rfl (sw_true rfl (by rfl) (by rfl) (by rfl)) (pi_range1 (by rfl) mr (pa_cons (pe_callB (call_min2 rfl) (by rfl) mm (by decide +kernel) (pa_cons (pv 11)
            (pa_cons (pe_call GD hr1 (by rfl) gD FD.kp bD .nil pass0 (pa_cons (pv 0) (pa_cons pe_int pa_nil))) pa_nil))) pa_nil))
          (blkOk_by (own := [("_law_k", 14)]) (N := nItems) (sc := defScope sItems) (by decide +kernel)) (fun _ _ _ _ _ => pg_name (i := 14) nd rfl (.inl rfl)) (fun _ _ _ _ _ => pts_nil) (fun _ _ _ _ _ => pe_call GP hr0 (by rfl) gP FP.kp bP .nil pass0 (pa_cons (pv 0) (pa_cons (pv 2) pa_nil))))
        (pss_cons (ps_setLc (i := 13) (own := [("_law_one", 15)]) (g := gName 15) (tt := tAnd (tTest (tOp (rEqD K) (tOp (rIxT K) (tVar 15) (tC (.int 0))) (tVar 10))) (tTest (tOp (rI0 fun i j => .bl (decide (i ≤ j))) (tCB (Dl.rLenA K) (tCons (tOp (rIxT K) (tVar 15) (tC (.int 1))) tNil)) (tVar 11)))) (te := tOp (rIxT K) (tVar 15) (tC (.int 1))) (by rfl) nd rfl rfl (sw_true rfl (by rfl) (by rfl) (by rfl)) (pi_list (pv 7))
          (blkOk_by (own := [("_law_one", 15)]) (N := nItems) (sc := defScope sItems) (by decide +kernel)) (fun _ _ _ _ _ => pg_name (i := 15) nd rfl (.inl rfl))
          (fun _ _ _ _ _ => pts_one (PW.pt (pw_and (pt_cmpR (op_eqD hr.units) (pe_ix ix_tup (pv 15) pe_int (fun _ _ => rfl)) (pv 10) (nomark _)) (pw_and1 (pt_cmpR op_le (pe_callB call_len (by rfl) ml PySem.boot_len (pa_cons (pe_ix ix_tup (pv 15) pe_int (fun _ _ => rfl)) pa_nil)) (pv 11) (nomark _))))))
          (fun _ _ _ _ _ => pe_ix ix_tup (pv 15) pe_int (fun _ _ => rfl)))
        (pss_cons (ps_if (PW.pt (pw_and (pt_cmpR (op_neD hr.units) (pv 13) (pe_lst pa_nil) (nomark _)) (pw_and1 (pt_cmpR (op_eqD hr.units) (pe_call GD hr1 (by rfl) gD FD.kp bD .nil pass0 (pa_cons (pv 0) (pa_cons pe_int pa_nil))) pe_int (nomark _)))))
          (pss_one (ps_set (i := 12) nd rfl (.inl rfl) (pe_callTy call_list_of (by rfl) mli (by decide +kernel) (pa_cons (pe_call GP hr0 (by rfl) gP FP.kp bP .nil pass0 (pa_cons (pv 0) (pa_cons (pv 13) pa_nil))) pa_nil)))) pss_nil)
        (pss_cons (ps_for PassesOwn.never rfl (pi_range1 (by rfl) mr (pa_cons (pe_callB call_len_seq (by rfl) ml PySem.boot_len (pa_cons (pv 12) pa_nil)) pa_nil)) (pg_name (i := 4) nd rfl (.inl rfl))
          (pss_cons (ps_expr (pe_bm PySem.F.plainAttrs_list PySem.F.slot_list_append PySem.F.type_list_append mt_append (pv 5) (pa_cons (pe_tup (pa_cons (pe_callB call_len_seq (by rfl) ml PySem.boot_len (pa_cons (pv 7) pa_nil)) (pa_cons (pv 4) pa_nil))) pa_nil)))
          (pss_one (ps_expr (pe_bm PySem.F.plainAttrs_list PySem.F.slot_list_append PySem.F.type_list_append mt_append (pv 6) (pa_cons (pe_ix ix_list (pv 12) (pv 4) (fun _ _ => rfl)) pa_nil))))))
        (pss_one (ps_expr (pe_bm PySem.F.plainAttrs_list PySem.F.slot_list_append PySem.F.type_list_append mt_append (pv 7) (pa_cons (pe_tup (pa_cons (pv 10) (pa_cons (pe_callTy call_tuple_of (by rfl) mt (by decide +kernel) (pa_cons (pv 12) pa_nil)) (pa_cons (pv 9) pa_nil)))) pa_nil))))))))))))
      (pss_one (ps_ret (pe_tup (pa_cons (pv 3) (pa_cons (pv 7) pa_nil))))))))), ?_⟩
    cases ht with
    | @cons x1 _ _ _ hx1 tl =>
    cases tl with
    | @cons x2 _ _ _ hx2 tl =>
    cases tl
    have hl : x1 = .int (limit : Int) := by
      cases hx1
      rfl
    subst hl
    have m3 : ∀ {te : TE} {σ : L2.St} {G : Hp} {M : Nat}, Gn.Holds S σ 0 → Gn.EvG S te σ G 0 (· = .int (M : Int)) → 0 < M → M < 1000 → Gn.EvG S (tCall (spDraw K) [] E0 (tCons (tVar 0) (tCons te tNil))) σ G 1 (fun d => ∃ j : Nat, d = .int (j : Int) ∧ j < M) := fun {te σ G M} hs h hM hM2 =>
      (Gn.draw hs (P := (· = .int (M : Int))) (fun L e => by cases e; exact ⟨by omega, by omega⟩) h (fun d e => ⟨_, e⟩)).weak (Nat.le_refl _) (fun d e => by
        obtain ⟨L, k, e1, rfl, k0, kL⟩ := e
        cases e1
        exact ⟨k.toNat, by rw [Int.toNat_of_nonneg k0], by omega⟩)
    have pickK : ∀ (σ : L2.St) (G : Hp), Evl.Ex F G → Gn.Holds S σ 0 → σ[2]? = some (some x2) → Gn.EvG S (tCall (spPick K) [] E0 (tCons (tVar 0) (tCons (tVar 2) tNil))) σ G 1 (fun d => ∃ z, z ∈ ks ∧ d = .str z) := fun σ G e hs h2 =>
      (Gn.pick hs (Gn.pure (Dl.var h2 (hx2.mono e))) (fun d e => ⟨_, e, by rw [List.length_map]; exact k0, by rw [List.length_map]; omega⟩)).weak (Nat.le_refl _) (fun d e => by
        obtain ⟨ds, e1, e2⟩ := e
        cases e1
        obtain ⟨z, hz, rfl⟩ := List.mem_map.mp e2
        exact ⟨z, hz, rfl⟩)
    have cnt : Gn.EvGA S (tCons (tOp (rI0 fun i j => .int (i + j)) (tC (.int 1)) (tCall (spDraw K) [] E0 (tCons (tVar 0) (tCons (tOp (rIxL K) (tLst (tCons (tC (.int 1)) (tCons (tC (.int 2)) (tCons (tC (.int 4)) tNil)))) (tCall (spDraw K) [] E0 (tCons (tVar 0) (tCons (tC (.int 3)) tNil)))) tNil)))) tNil)
        (start nItems [V.ref S.1, V.int (limit : Int), x2]) F 2 (fun ds => ∃ k : Int, ds = [.int k] ∧ 1 ≤ k ∧ k ≤ 4) := by
      have e3 := m3 (σ := start nItems [V.ref S.1, V.int (limit : Int), x2]) (G := F) (M := 3) rfl (Gn.pure Dl.int) (by decide) (by decide)
      have eL : Gn.EvG S (tOp (rIxL K) (tLst (tCons (tC (.int 1)) (tCons (tC (.int 2)) (tCons (tC (.int 4)) tNil)))) (tCall (spDraw K) [] E0 (tCons (tVar 0) (tCons (tC (.int 3)) tNil)))) (start nItems [V.ref S.1, V.int (limit : Int), x2]) F 1 (fun d => ∃ M : Int, d = .int M ∧ 0 < M ∧ M ≤ 4) :=
        (Gn.op (Gn.pure (Dl.lst (Dl.cons Dl.int (Dl.cons Dl.int (Dl.cons Dl.int Dl.nil))) (by decide))) e3 (fun d1 d2 h1 h2 => by
          obtain ⟨j, rfl, hj⟩ := h2
          subst h1
          match j, hj with
          | 0, _ => exact ⟨.int 1, ⟨1, rfl, by decide, by decide⟩, Dl.ixL rfl⟩
          | 1, _ => exact ⟨.int 2, ⟨2, rfl, by decide, by decide⟩, Dl.ixL rfl⟩
          | 2, _ => exact ⟨.int 4, ⟨4, rfl, by decide, by decide⟩, Dl.ixL rfl⟩)).weak (by decide) (fun d h => h)
      have eC := Gn.draw (K := K) (E := E0) (i := 0) (show Gn.Holds S (start nItems [V.ref S.1, V.int (limit : Int), x2]) 0 from rfl) (fun L e => by obtain ⟨M, e1, e2, e3⟩ := e; cases e1; exact ⟨by omega, by omega⟩) eL (fun d e => by obtain ⟨M, e1, _⟩ := e; exact ⟨M, e1⟩)
      refine (Gn.cons (Gn.op (P3 := fun d => ∃ k : Int, d = .int k ∧ 1 ≤ k ∧ k ≤ 4) (Gn.pure Dl.int) eC (fun d1 d2 h1 h2 => ?_)) Gn.nil).weak (by decide) (fun ds h => ?_)
      · obtain ⟨L, k, ⟨M, eM, M0, M4⟩, rfl, b0, bL⟩ := h2
        cases eM
        subst h1
        exact ⟨.int (1 + k), ⟨1 + k, rfl, by omega, by omega⟩, Dl.rI0i⟩
      · obtain ⟨d, es, rfl, ⟨k, rfl, h⟩, rfl⟩ := h
        exact ⟨k, rfl, h⟩
    -- the roots
    refine Gn.q_asg (n := 6) (P := fun d => ∃ roots : List Str, d = .tuple (roots.map .str) ∧ 1 ≤ roots.length ∧ roots.length ≤ 4 ∧ ∀ r ∈ roots, r ∈ ks) ((Gn.call (P := fun d => ∃ roots : List Str, d = .tuple (roots.map .str) ∧ 1 ≤ roots.length ∧ roots.length ≤ 4 ∧ ∀ r ∈ roots, r ∈ ks) (Gn.cons (Gn.lcRG (j := 14) (vs := [14]) (c := 1) (N := 4) (P := fun d => ∃ z, z ∈ ks ∧ d = .str z) cnt
        (fun ds h => by obtain ⟨k, rfl, h1, h2⟩ := h; exact ⟨k, rfl, by omega, by omega⟩) (by decide) (fun _ => rfl) (fun i G e hi => pickK _ G e rfl rfl)) Gn.nil) (fun ds h => by
          obtain ⟨d, es, rfl, ⟨k, zs, ⟨k', ek, k1, k4⟩, rfl, len, all⟩, rfl⟩ := h
          cases ek
          obtain ⟨roots, rfl, hr⟩ := strs_ex all
          rw [List.length_map] at len
          exact ⟨_, ⟨roots, rfl, by omega, by omega, hr⟩, Gn.tupOf⟩)).weak (by decide) (fun d h => h)) at0 (by omega) fun xr d F1 H1 t1 s1 a1 l1 tr hr => ?_
    obtain ⟨roots, rfl, r1, r4, hroots⟩ := hr
    have back : ∀ {A B : Hp} {p : Addr}, (∀ b, A b ≠ none → B b ≠ none) → B p = none → A p = none := fun {A B p} d h => by
      cases z : A p with
      | none => rfl
      | some o => exact absurd h (d p (by rw [z]; exact fun y => nomatch y))
    have trK := tr
    cases tr with
    | @tup rr xs0 _ hrr txs =>
    have exs := strs_of txs
    subst exs
    -- the lists
    refine Gn.q_asgO (F := F1) (Gn.lcR1o (n := (roots.length : Int)) (fun _ => true) (fun i => encP (none, i)) (Dl.cons (Dl.is_ (Dl.call (Dl.cons (Dl.var rfl trK) Dl.nil) Dl.lenT) (by rw [List.length_map])) Dl.nil) ⟨by omega, by omega⟩ (fun _ => rfl) (fun _ _ _ _ => Dl.tyes) (fun i G e hi _ => Dl.tup (Dl.cons Dl.str (Dl.cons (Dl.var rfl (.int _)) Dl.nil)) (by show 2 ≤ 100000; decide))) a1.i fun p1 xs F2 H2 s2 hp1 f1 h1 tx => ?_
    refine ⟨_, rfl, rr, _, rfl, .inr (.inl (.inl (s2.h _ _ (a1.i _ _ hrr)))), fun p2 hp2 => ?_⟩
    refine ⟨by show 0 ≤ sizeLine; exact Nat.zero_le _, fun p3 hp3 => ?_⟩
    have at2 := a1.step s2
    have sg2 : Gn.Stg S F H F2 H2 := s1.trans (.of s2)
    have f2 : F2 p2 = none := Evl.fresh_back at2.i hp2
    have d12 : p1 ≠ p2 := fun z => by rw [z, hp2] at h1; cases h1
    have d23 : p2 ≠ p3 := fun z => by rw [← z, upd_same] at hp3; cases hp3
    have d13 : p1 ≠ p3 := fun z => by rw [← z, upd_ne d12, h1] at hp3; cases hp3
    have hp3' : H2 p3 = none := by
      rw [upd_ne (Ne.symm d23)] at hp3
      exact hp3
    have f3 : F2 p3 = none := Evl.fresh_back at2.i hp3'
    have T : Tri S H p1 p2 p3 := ⟨back s1.d hp1, back sg2.d hp2, back sg2.d hp3', d12, d13, d23, Gn.At.apart a1 hp1, Gn.At.apart at2 hp2, Gn.At.apart at2 hp3'⟩
    have o0 : Own3 S F H p1 p2 p3 F2 (upd (upd H2 p2 (.lst (roots.map V.str))) p3 (.lst [])) t1 ((List.range roots.length).map fun j => ((none, j) : Plc)) roots [] := by
      refine ⟨(sg2.mut T.n2 f2).mut T.n3 f3, (at2.mut f2 T.a2.1 T.a2.2).mut f3 T.a3.1 T.a3.2, f1, f2, f3, ⟨xs, ?_, ?_⟩, ?_, ⟨[], upd_same, .nil⟩⟩
      · rw [upd_ne d13, upd_ne d12]
        exact h1
      · rw [Dl.kept_all] at tx
        rw [List.map_map]
        exact tx
      · rw [upd_ne d23]
        exact upd_same
    have e12 : Evl.Ex F1 F2 := s2.f
    clear tx h1 hp1 hp2 hp3 hp3' f1 f2 f3 sg2 at2 s2
    generalize upd (upd H2 p2 (.lst (roots.map V.str))) p3 (.lst []) = H4 at o0 ⊢
    refine ⟨fun m σ H' => ∃ (st : ISt) (F' : Hp) (t' : Nat) (y4 y8 y9 y10 y11 y12 y13 : Option V), σ = [some (.ref S.1), some (.int (limit : Int)), some x2, some (.ref rr), y4, some (.ref p1), some (.ref p2), some (.ref p3), y8, y9, y10, y11, y12, y13, none, none] ∧ m = limit - st.bs.length ∧
      Own3 S F H p1 p2 p3 F' H' t' st.os st.ac st.bs ∧ Evl.Ex F1 F' ∧ t' ≤ t + 6 + 8 * st.bs.length ∧ Reach ks limit roots st, ⟨_, ⟨_, roots, []⟩, F2, t1, none, none, none, none, none, none, none, rfl, rfl, o0, e12, by show t1 ≤ t + 6 + 8 * 0; omega, .start⟩, ?_⟩
    clear o0 e12
    rintro m σ H' ⟨st, F', t', y4, y8, y9, y10, y11, y12, y13, rfl, rfl, o, e1F, tl, rc⟩
    obtain ⟨len1, len2, len3⟩ := rc.lens (by omega)
    obtain ⟨ox, ob, ot⟩ := o.h1
    refine ⟨_, rfl, by show 0 ≤ sizeLine; exact Nat.zero_le _, fun q5 hq5 => ?_⟩
    have s5 : Dl.Stp F' H' F' (upd H' q5 (.lst [])) := .hid o.at_.i hq5
    have o5 := o.stp T s5
    have ob5 := s5.h _ _ ob
    have oxl : ox.length = st.os.length := by rw [ot.length, List.length_map]
    refine ⟨.list (st.os.map encP), .list [], .lst (.inl (.inl ob5)) (Dl.TlAll.dp (ot.mono s5.i)), .lst (.inl (.inl upd_same)) .nil, shapedP _, by decide +kernel, _, rfl, ?_⟩
    rw [eqvNilD]
    clear ob ot
    generalize upd H' q5 (.lst []) = H5 at o5 s5 ob5 ⊢
    by_cases hos : st.os = []
    · rw [hos, List.map_nil, List.isEmpty_nil, Bool.not_true, if_neg Bool.false_ne_true]
      obtain ⟨ys, h3, t3⟩ := o5.h3
      refine ⟨_, rfl, _, rfl, by show 2 ≤ sizeLine; decide, fun qq hqq => ?_⟩
      have f3 := o5.f3
      have ow := o5.sg.own T.n3 f3 h3
      have aw := o5.at_.own T.a3.1 T.a3.2 f3 h3
      have sN : Dl.Stp (upd F' p3 (.lst ys)) H5 (upd (upd F' p3 (.lst ys)) qq (.tup [.ref rr, .ref p3])) (upd H5 qq (.tup [.ref rr, .ref p3])) := .new aw.i hqq
      have exO : Evl.Ex F' (upd F' p3 (.lst ys)) := Evl.Ex.new f3
      refine q _ (.tuple [.tuple (roots.map .str), .list (st.bs.map encB)]) _ _ t' (ow.trans (.of sN)) (aw.step sN) (by omega) ?_ ⟨limit, ks, roots, st, rfl, rfl, rc, hos, r1, r4, hroots⟩
      exact .tup upd_same (.cons ((trK.mono e1F).mono (exO.trans sN.f)) (.cons (.lst (sN.f _ _ upd_same) (t3.mono (exO.trans sN.f))) .nil))
    · have hne : st.os.isEmpty = false := by
        cases hh : st.os with
        | nil => exact absurd hh hos
        | cons a b => rfl
      have hne2 : (st.os.map encP).isEmpty = false := by
        rw [List.isEmpty_map]
        exact hne
      rw [hne2, Bool.not_false, if_pos rfl]
      have opos : 0 < st.os.length := List.length_pos_iff.mpr hos
      refine ⟨fun σ' H'' => ∃ m', m' < limit - st.bs.length ∧ ∃ (st : ISt) (F' : Hp) (t' : Nat) (y4 y8 y9 y10 y11 y12 y13 : Option V), σ' = [some (.ref S.1), some (.int (limit : Int)), some x2, some (.ref rr), y4, some (.ref p1), some (.ref p2), some (.ref p3), y8, y9, y10, y11, y12, y13, none, none] ∧ m' = limit - st.bs.length ∧
        Own3 S F H p1 p2 p3 F' H'' t' st.os st.ac st.bs ∧ Evl.Ex F1 F' ∧ t' ≤ t + 6 + 8 * st.bs.length ∧ Reach ks limit roots st, fun σ' H'' h => h, ?_⟩
      have fin : ∀ (st' : ISt) (F'' H'' : Hp) (t'' : Nat) (y4 y8 y9 y10 y11 y12 y13 : Option V), IStep ks limit st st' → st'.bs.length = st.bs.length + 1 → Own3 S F H p1 p2 p3 F'' H'' t'' st'.os st'.ac st'.bs → Evl.Ex F1 F'' → t'' ≤ t' + 8 →
          ∃ m', m' < limit - st.bs.length ∧ ∃ (st : ISt) (F' : Hp) (t' : Nat) (z4 z8 z9 z10 z11 z12 z13 : Option V), [some (V.ref S.1), some (V.int (limit : Int)), some x2, some (V.ref rr), y4, some (V.ref p1), some (V.ref p2), some (V.ref p3), y8, y9, y10, y11, y12, y13, none, none] =
            [some (V.ref S.1), some (V.int (limit : Int)), some x2, some (V.ref rr), z4, some (V.ref p1), some (V.ref p2), some (V.ref p3), z8, z9, z10, z11, z12, z13, none, none] ∧ m' = limit - st.bs.length ∧
            Own3 S F H p1 p2 p3 F' H'' t' st.os st.ac st.bs ∧ Evl.Ex F1 F' ∧ t' ≤ t + 6 + 8 * st.bs.length ∧ Reach ks limit roots st := fun st' F'' H'' t'' y4 y8 y9 y10 y11 y12 y13 stp eb oo ee tt =>
        ⟨limit - st'.bs.length, by omega, st', F'', t'', y4, y8, y9, y10, y11, y12, y13, rfl, rfl, oo, ee, by omega, rc.step stp⟩
      -- the place
      refine ⟨_, rfl, _, rfl, p1, ox, rfl, .inl (.inl (.inl ob5)), S, t', (ox.length : Int), rfl, o5.at_.src, by omega, by omega, ?_, fun k H6 but6 src6 k0' kL => ?_⟩
      · have z : ((ox.length : Int)).natAbs < 2 ^ 40 := by omega
        exact Nat.lt_of_lt_of_le z (Nat.pow_le_pow_right (by decide) (by decide))
      obtain ⟨s6, a6⟩ := Gn.Stg.draw o5.at_ but6 src6
      have o6 := o5.go T s6 a6
      obtain ⟨i, rfl⟩ : ∃ i : Nat, k = (i : Int) := ⟨k.toNat, (Int.toNat_of_nonneg k0').symm⟩
      have hi : i < st.os.length := by omega
      obtain ⟨pl, hpl⟩ : ∃ pl, st.os[i]? = some pl := ⟨_, List.getElem?_eq_getElem hi⟩
      obtain ⟨kd, hkd⟩ : ∃ kd, st.ac[i]? = some kd := ⟨_, List.getElem?_eq_getElem (by omega)⟩
      obtain ⟨xs6, b6, t6⟩ := o6.h1
      have x6l : xs6.length = st.os.length := by rw [t6.length, List.length_map]
      obtain ⟨v6, hv6, tv6⟩ := t6.get (i := i) (d := encP pl) (by rw [List.getElem?_map, hpl]; rfl)
      have o7 := o6.set1 (os' := st.os.eraseIdx i) T (by rw [erase_map]; exact erase_all i t6)
      have o8 := o7.set2 (ac' := st.ac.eraseIdx i) T (erase_map V.str st.ac i).symm
      refine ⟨_, rfl, .inl ⟨rfl, _, .inl (.inl b6)⟩, _, rfl, p1, xs6, (i : Int), i, v6, rfl, rfl, b6, by omega, by omega, (by have z := seqIndex_of (k := (i : Int)) (n := xs6.length) (by omega) (by omega); exact z), hv6, ?_⟩
      refine ⟨_, rfl, .inl ⟨rfl, _, .inl (.inl o7.h2)⟩, _, rfl, p2, _, (i : Int), i, .str kd, rfl, rfl, o7.h2, by omega, by omega, (by have z := seqIndex_of (k := (i : Int)) (n := (st.ac.map V.str).length) (by omega) (by rw [List.length_map]; omega); exact z), by rw [List.getElem?_map, hkd]; rfl, ?_⟩
      refine ⟨by show 2 ≤ sizeLine; decide, fun q9 hq9 => ⟨q9, _, rfl, .inl (.inl upd_same), rfl, _, _, rfl, _, _, rfl, rfl, ?_⟩⟩
      have o9 := o8.stp T (.hid (o := .tup [v6, .str kd]) o8.at_.i hq9)
      generalize upd (upd (upd H6 p1 (.lst (xs6.eraseIdx i))) p2 (.lst ((st.ac.map V.str).eraseIdx i))) q9 (.tup [v6, .str kd]) = H9 at o9 ⊢
      -- how many slots at most
      obtain ⟨xs9, b9, t9⟩ := o9.h1
      obtain ⟨ys9, c9, u9⟩ := o9.h3
      have x9l : xs9.length = st.os.length - 1 := by rw [t9.length, List.length_map, List.length_eraseIdx_of_lt hi]
      have y9l : ys9.length = st.bs.length := by rw [u9.length, List.length_map]
      refine ⟨_, rfl, _, rfl, p3, ys9, rfl, .inl (.inl (.inl c9)), _, _, rfl, rfl, _, rfl, p1, xs9, rfl, .inl (.inl (.inl b9)), _, _, rfl, rfl, _, _, rfl, rfl, _, _, rfl, ?_⟩
      obtain ⟨lh, elh, lh4, lhL⟩ : ∃ lh : Nat, (if (limit : Int) - (ys9.length : Int) - (xs9.length : Int) - 1 < 4 then (limit : Int) - (ys9.length : Int) - (xs9.length : Int) - 1 else 4) = (lh : Int) ∧ lh ≤ 4 ∧ lh + st.bs.length + st.os.length ≤ limit := by
        by_cases c : (limit : Int) - (ys9.length : Int) - (xs9.length : Int) - 1 < 4
        · rw [if_pos c]
          exact ⟨((limit : Int) - (ys9.length : Int) - (xs9.length : Int) - 1).toNat, by omega, by omega, by omega⟩
        · rw [if_neg c]
          exact ⟨4, rfl, by omega, by omega⟩
      rw [elh]
      -- the slots
      refine Gn.gname_in ?_
      dsimp only
      refine Gn.q_asg (n := 5) (P := fun d => ∃ zs : List Str, d = .list (zs.map .str) ∧ zs.length ≤ lh ∧ ∀ z ∈ zs, z ∈ ks) ?_ o9.at_ (by omega) fun xsl d F10 H10 t10 s10 a10 l10 tsl hsl => ?_
      · refine Gn.EvG.weak (Gn.lcRG (j := 14) (vs := [14]) (c := 1) (N := 4) (m := 1) (Ps := fun ds => ∃ k : Int, ds = [.int k] ∧ 0 ≤ k ∧ k ≤ (lh : Int)) (P := fun d => ∃ z, z ∈ ks ∧ d = .str z) ?_
            (fun ds h => by obtain ⟨k, rfl, h1, h2⟩ := h; exact ⟨k, rfl, h1, by omega⟩) (by decide) (fun _ => rfl) (fun i G e hi => pickK _ G (o9.sg.f.trans e) rfl rfl)) (by decide) (fun d h => ?_)
        · refine Gn.EvGA.weak (Gn.cons (P := fun d => ∃ k : Int, d = .int k ∧ 0 ≤ k ∧ k ≤ (lh : Int)) (Gn.call (Gn.cons (Gn.pure (Dl.var rfl (.int (lh : Int)))) (Gn.cons (m3 (M := 5) rfl (Gn.pure Dl.int) (by decide) (by decide)) Gn.nil)) (fun ds h => ?_)) Gn.nil) (by decide) (fun ds h => ?_)
          · obtain ⟨d1, es1, rfl, rfl, d2, es2, rfl, ⟨j, rfl, hj⟩, rfl⟩ := h
            refine ⟨_, ⟨_, rfl, ?_, ?_⟩, Gn.min2⟩
            · split <;> omega
            · split <;> omega
          · obtain ⟨d, es, rfl, ⟨k, rfl, h⟩, rfl⟩ := h
            exact ⟨k, rfl, h⟩
        · obtain ⟨k, zs, ⟨k', ek, k1, k4⟩, rfl, len, all⟩ := h
          cases ek
          obtain ⟨sl, rfl, hr⟩ := strs_ex all
          rw [List.length_map] at len
          exact ⟨sl, rfl, by omega, hr⟩
      obtain ⟨sl0, rfl, sl0l, sl0m⟩ := hsl
      have o10 := o9.go T s10 a10
      clear elh t9 u9 b9 c9 x9l y9l xs9 ys9
      obtain ⟨ys, c10, u10⟩ := o10.h3
      obtain ⟨rm1, rm2⟩ := rc.mem hroots
      -- the earlier ones
      refine Gn.q_any ?_
      refine Gn.lcH (K := K) (tl := tVar 7) (l := 7) (a := p3) (xs := ys) (ds := st.bs.map encB) (fun i => match st.bs[i]? with | some b => (b.kind == kd) && decide ((b.slots.length : Int) ≤ (lh : Int)) | none => false) (fun i => match st.bs[i]? with | some b => .tuple (b.slots.map .str) | none => .none)
        rfl c10 u10 a10.i (by rw [List.length_map]; omega) (fun _ => rfl) (fun i x d G e hd tx => ?_) (fun i x d G e hd tx _ => ?_) _ (fun x F11 H11 s11 t11 => ?_)
      · rw [List.getElem?_map] at hd
        cases hb : st.bs[i]? with
        | none => rw [hb] at hd; cases hd
        | some b =>
          rw [hb] at hd
          cases (Option.some.inj hd)
          have hbm := List.mem_of_getElem? hb
          refine Dl.tis (Dl.tand (Dl.test (Dl.op (Dl.op (Dl.var rfl tx) Dl.int (Dl.ixT (i := 0) rfl)) (Dl.var rfl (.str kd)) (Dl.eqD (shaped_str (lay _ (rm2 b hbm).1)) (shaped_str (lay _ (rm1 kd (List.mem_of_getElem? hkd))))))) (fun _ => Dl.test (Dl.op (Dl.call (Dl.cons (Dl.op (Dl.var rfl tx) Dl.int (Dl.ixT (i := 1) rfl)) Dl.nil) (Dl.len (n := b.slots.length) (congrArg some (List.length_map _)))) (Dl.var rfl (.int (lh : Int))) Dl.rI0b))) ?_
          simp [PyData.eqv]
      · rw [List.getElem?_map] at hd
        cases hb : st.bs[i]? with
        | none => rw [hb] at hd; cases hd
        | some b =>
          rw [hb] at hd
          cases (Option.some.inj hd)
          exact Dl.op (Dl.var rfl tx) Dl.int (Dl.ixT (i := 1) rfl)
      · obtain ⟨es, ees, hes⟩ := rows_ex (R := fun r => r.length ≤ lh ∧ ∃ b ∈ st.bs, b.kind = kd ∧ b.slots = r) (ds := Dl.kept (st.bs.map encB).length (fun i => match st.bs[i]? with | some b => (b.kind == kd) && decide ((b.slots.length : Int) ≤ (lh : Int)) | none => false) (fun i => match st.bs[i]? with | some b => .tuple (b.slots.map .str) | none => .none)) (fun d hd => by
          unfold Dl.kept at hd
          obtain ⟨i, hi, rfl⟩ := List.mem_map.mp hd
          have hf := (List.mem_filter.mp hi).2
          cases hb : st.bs[i]? with
          | none =>
            rw [hb] at hf
            cases hf
          | some b =>
            rw [hb] at hf
            obtain ⟨f1, f2⟩ := Bool.and_eq_true_iff.mp hf
            have f3 := of_decide_eq_true f2
            exact ⟨b.slots, rfl, by omega, b, List.mem_of_getElem? hb, beq_iff_eq.mp f1, rfl⟩)
        rw [ees] at t11
        have o11 := o10.stp T s11
        have esm : ∀ r ∈ es, ∀ z ∈ r, z ∈ ks := fun r hr => by
          obtain ⟨_, b, hb, _, rfl⟩ := hes r hr
          exact (rm2 b hb).2
        have tsl11 := tsl.mono s11.f
        refine Gn.if_rest (fun σ' H' => ∃ (sl : List Str) (F'' : Hp) (t'' : Nat) (vs : V) (z13 : Option V), σ' = [some (.ref S.1), some (.int (limit : Int)), some x2, some (.ref rr), y4, some (.ref p1), some (.ref p2), some (.ref p3), some (.int (i : Int)), some v6, some (.str kd), some (.int (lh : Int)), some vs, z13, none, none] ∧
            Own3 S F H p1 p2 p3 F'' H' t'' (st.os.eraseIdx i) (st.ac.eraseIdx i) st.bs ∧ Evl.Ex F' F'' ∧ t'' ≤ t' + 8 ∧ Dl.Tl F'' vs (.list (sl.map .str)) ∧ sl.length ≤ lh ∧ ((∀ k ∈ sl, k ∈ ks) ∨ ∃ b ∈ st.bs, b.kind = kd ∧ b.slots = sl)) (fun G hG => ?_) (fun σ' H12 hR => ?_)
        · have T1 : Dl.EvT (tTest (tOp (rNeD K) (tVar 13) (tLst tNil))) [some (.ref S.1), some (.int (limit : Int)), some x2, some (.ref rr), y4, some (.ref p1), some (.ref p2), some (.ref p3), some (.int (i : Int)), some v6, some (.str kd), some (.int (lh : Int)), some xsl, some x, none, none] F11
              (!(PyData.eqv (.list (es.map fun r => .tuple (r.map .str))) (.list []))) := Dl.test (Dl.op (Dl.var rfl t11) (Dl.lst Dl.nil (by decide)) (Dl.neD (shaped_rows lay esm) (by decide +kernel)))
          refine T1 F11 H11 (Evl.Ex.refl _) o11.at_.i _ fun F12 H12 s12 => ?_
          rw [eqvNilD]
          have o12 := o11.stp T s12
          have e12 : Evl.Ex F' F12 := (s10.f.trans s11.f).trans s12.f
          by_cases hes0 : es = []
          · rw [hes0, List.map_nil, List.isEmpty_nil, Bool.not_true, if_neg Bool.false_ne_true]
            dsimp only
            rw [if_neg Bool.false_ne_true]
            exact hG _ _ ⟨sl0, F12, t10, xsl, _, rfl, o12, e12, by omega, tsl11.mono s12.f, sl0l, .inl sl0m⟩
          · have he : (es.map fun r => PyData.tuple (r.map .str)).isEmpty = false := by
              cases es with
              | nil => exact absurd rfl hes0
              | cons a b => rfl
            rw [he, Bool.not_false, if_pos rfl]
            refine ⟨_, rfl, S, t10, 2, rfl, o12.at_.src, by omega, by decide, ?_, fun k H13 but13 src13 b0 b2 => ⟨.int k, .int 0, .int k, .int 0, int_shaped _, int_shaped _, _, rfl, ?_⟩⟩
            · exact Nat.lt_of_lt_of_le (by decide : (2 : Int).natAbs < 2 ^ 2) (Nat.pow_le_pow_right (by decide) (by decide))
            obtain ⟨s13, a13⟩ := Gn.Stg.draw o12.at_ but13 src13
            have o13 := o12.go T s13 a13
            by_cases hk : PyData.eqv (.int k) (.int 0) = true
            · rw [if_pos hk]
              have elen : es.length ≤ 100000 := by
                have z := Dl.kept_len (st.bs.map encB).length (fun i => match st.bs[i]? with | some b => (b.kind == kd) && decide ((b.slots.length : Int) ≤ (lh : Int)) | none => false) (fun i => match st.bs[i]? with | some b => .tuple (b.slots.map .str) | none => .none)
                rw [ees, List.length_map, List.length_map] at z
                omega
              have EV : Gn.EvG S (tCB (Gn.rListOf K) (tCons (tCall (spPick K) [] E0 (tCons (tVar 0) (tCons (tVar 13) tNil))) tNil)) [some (.ref S.1), some (.int (limit : Int)), some x2, some (.ref rr), y4, some (.ref p1), some (.ref p2), some (.ref p3), some (.int (i : Int)), some v6, some (.str kd), some (.int (lh : Int)), some xsl, some x, none, none] F12 1
                  (fun d => ∃ sl, sl ∈ es ∧ d = .list (sl.map .str)) := Gn.EvG.weak (Gn.call (P := fun d => ∃ sl, sl ∈ es ∧ d = .list (sl.map .str)) (Gn.cons (Gn.pick rfl (Gn.pure (Dl.var rfl (t11.mono s12.f))) (fun d e => ⟨_, e, by rw [List.length_map]; exact List.length_pos_iff.mpr hes0, by rw [List.length_map]; exact elen⟩)) Gn.nil) (fun ds h => by
                    obtain ⟨d, ws, rfl, ⟨gs, eg, hd⟩, rfl⟩ := h
                    cases eg
                    obtain ⟨sl, hsl, rfl⟩ := List.mem_map.mp hd
                    exact ⟨_, ⟨sl, hsl, rfl⟩, Gn.listOf⟩)) (by decide) (fun d h => h)
              refine EV F12 H13 (t10 + 1) (Evl.Ex.refl _) a13 (by omega) _ fun xv d F14 H14 t14 s14 a14 l14 tx hx => ?_
              obtain ⟨sl, hsl, rfl⟩ := hx
              obtain ⟨g1, g2⟩ := hes sl hsl
              exact hG _ _ ⟨sl, F14, t14, xv, some x, rfl, o13.go T s14 a14, e12.trans s14.f, by omega, tx, g1, .inr g2⟩
            · rw [if_neg hk]
              exact hG _ _ ⟨sl0, F12, t10 + 1, xsl, some x, rfl, o13, e12, by omega, tsl11.mono s12.f, sl0l, .inl sl0m⟩
        · obtain ⟨sl, F12, t12, vs, z13, rfl, o12, e12, tt, tsl12, sll, h5⟩ := hR
          cases tsl12 with
          | @lst l ws _ hl tw =>
          have ews := strs_of tw
          subst ews
          have wl : (sl.map V.str).length = sl.length := List.length_map _
          have hlB : ∀ {G : Hp}, Evl.Ex F12 G → G l = some (.lst (sl.map V.str)) := fun e => e _ _ hl
          refine ⟨_, rfl, l, _, rfl, .inl (.inl (.inl (o12.at_.i _ _ hl))), _, rfl, by omega, by omega, ?_⟩
          refine for_range (lo := 0) (n := ((sl.map V.str).length : Int).toNat) (fun j σ H' => ∃ (F3 : Hp) (z4 : Option V), σ = [some (.ref S.1), some (.int (limit : Int)), some x2, some (.ref rr), z4, some (.ref p1), some (.ref p2), some (.ref p3), some (.int (i : Int)), some v6, some (.str kd), some (.int (lh : Int)), some (.ref l), z13, none, none] ∧
              Own3 S F H p1 p2 p3 F3 H' t12 (st.os.eraseIdx i ++ fillS st.bs.length j) (st.ac.eraseIdx i ++ sl.take j) st.bs ∧ Evl.Ex F12 F3) ⟨F12, y4, rfl, ?_, Evl.Ex.refl _⟩ (fun j σ H' hj hP => ?_) (fun σ H' hP => ?_)
          · have e1 : fillS st.bs.length 0 = [] := rfl
            rw [e1, List.take_zero, List.append_nil, List.append_nil]
            exact o12
          · obtain ⟨F3, z4, rfl, o3, e3⟩ := hP
            have hj' : j < sl.length := by omega
            obtain ⟨z, hz⟩ : ∃ z, sl[j]? = some z := ⟨_, List.getElem?_eq_getElem hj'⟩
            rw [Int.zero_add]
            refine Gn.gname_in ?_
            obtain ⟨xs3, b3, t3⟩ := o3.h1
            obtain ⟨ys3, c3, u3⟩ := o3.h3
            have y3l : ys3.length = st.bs.length := by rw [u3.length, List.length_map]
            have x3l : xs3.length ≤ 60 := by
              rw [t3.length, List.length_map, List.length_append, List.length_eraseIdx_of_lt hi]
              unfold fillS
              rw [List.length_map, List.length_range]
              omega
            have sL := sizeLine_eq
            refine ⟨_, rfl, .inl ⟨rfl, _, .inl (.inl b3)⟩, _, rfl, p3, ys3, rfl, .inl (.inl (.inl c3)), _, rfl, by show 2 ≤ sizeLine; decide, fun q3 hq3 => ?_⟩
            have sq : Dl.Stp F3 H' (upd F3 q3 (.tup [.int (ys3.length : Int), .int (j : Int)])) (upd H' q3 (.tup [.int (ys3.length : Int), .int (j : Int)])) := .new o3.at_.i hq3
            have tp : Dl.Tl (upd F3 q3 (.tup [.int (ys3.length : Int), .int (j : Int)])) (.ref q3) (encP (some st.bs.length, j)) := by
              rw [y3l]
              exact .tup upd_same (.cons (.int _) (.cons (.int _) .nil))
            have o4 := (o3.stp T sq).set1 (os' := (st.os.eraseIdx i ++ fillS st.bs.length j) ++ [(some st.bs.length, j)]) (xs := xs3 ++ [.ref q3]) T (by
              rw [List.map_append]
              exact (t3.mono sq.f).append (.cons tp .nil))
            refine ⟨p1, xs3, .ref q3, rfl, rfl, sq.h _ _ b3, by omega, ?_⟩
            refine ⟨_, rfl, .inl ⟨rfl, _, .inl (.inl o4.h2)⟩, _, rfl, _, rfl, l, _, (j : Int), .str z, rfl, rfl, .inl (.inl (o4.at_.i _ _ (hlB (e3.trans sq.f)))), atI_nat (by rw [List.getElem?_map, hz]; rfl), p2, _, .str z, rfl, rfl, o4.h2, ?_, ?_⟩
            · rw [List.length_map, List.length_append, List.length_eraseIdx, List.length_take]
              split <;> omega
            · have ef : fillS st.bs.length (j + 1) = fillS st.bs.length j ++ [(some st.bs.length, j)] := by
                unfold fillS
                rw [List.range_succ, List.map_append]
                rfl
              have o5' := o4.set2 (ac' := st.ac.eraseIdx i ++ sl.take (j + 1)) (vs := (st.ac.eraseIdx i ++ sl.take j).map V.str ++ [.str z]) T (by
                rw [List.take_add_one, hz, ← List.append_assoc, List.map_append (l₂ := (some z).toList)]
                rfl)
              refine ⟨_, some (.int (j : Int)), rfl, ?_, e3.trans sq.f⟩
              rw [ef, ← List.append_assoc]
              exact o5'
          · obtain ⟨F3, z4, rfl, o3, e3⟩ := hP
            have en : ((sl.map V.str).length : Int).toNat = sl.length := by omega
            rw [en, List.take_length] at o3
            obtain ⟨ys3, c3, u3⟩ := o3.h3
            have y3l : ys3.length = st.bs.length := by rw [u3.length, List.length_map]
            have sL := sizeLine_eq
            refine ⟨_, rfl, .inl ⟨rfl, _, .inl (.inl c3)⟩, _, rfl, _, rfl, l, _, rfl, .inl ⟨.inl (.inl (o3.at_.i _ _ (hlB e3))), fun q3 hq3 => ?_⟩⟩
            have sq : Dl.Stp F3 H' (upd F3 q3 (.tup (sl.map V.str))) (upd H' q3 (.tup (sl.map V.str))) := .new o3.at_.i hq3
            refine ⟨_, rfl, by show 3 ≤ sizeLine; decide, fun q4 hq4 => ?_⟩
            have sq4 : Dl.Stp (upd F3 q3 (.tup (sl.map V.str))) (upd H' q3 (.tup (sl.map V.str))) (upd (upd F3 q3 (.tup (sl.map V.str))) q4 (.tup [.str kd, .ref q3, v6])) (upd (upd H' q3 (.tup (sl.map V.str))) q4 (.tup [.str kd, .ref q3, v6])) := .new sq.i hq4
            have tb : Dl.Tl (upd (upd F3 q3 (.tup (sl.map V.str))) q4 (.tup [.str kd, .ref q3, v6])) (.ref q4) (encB ⟨kd, sl, pl⟩) :=
              .tup upd_same (.cons (.str kd) (.cons (.tup (sq4.f _ _ upd_same) (of_strs sl)) (.cons ((tv6.mono ((e12.trans e3).trans sq.f)).mono sq4.f) .nil)))
            have o4 := ((o3.stp T sq).stp T sq4).set3 (bs' := st.bs ++ [⟨kd, sl, pl⟩]) (ys := ys3 ++ [.ref q4]) T (by
              rw [List.map_append]
              exact ((u3.mono sq.f).mono sq4.f).append (.cons tb .nil))
            refine ⟨p3, ys3, .ref q4, rfl, rfl, sq4.h _ _ (sq.h _ _ c3), by omega, ?_⟩
            exact fin ⟨st.os.eraseIdx i ++ fillS st.bs.length sl.length, st.ac.eraseIdx i ++ sl, st.bs ++ [⟨kd, sl, pl⟩]⟩ _ _ t12 z4 (some (.int (i : Int))) (some v6) (some (.str kd)) (some (.int (lh : Int))) (some (.ref l)) z13 (.mk st i pl kd sl hpl hkd (by omega) (by omega) h5) (by rw [List.length_append]; rfl) o4 (((e1F.trans e12).trans e3).trans (sq.f.trans sq4.f)) tt
end
end Lw
set_option Elab.async false
set_option linter.all false
set_option maxRecDepth 100000
set_option maxHeartbeats 4000000
/-! sorted(a list of data) -/
namespace SortD
open PySem PySem.Spec PyProof.Rows L2
def rSortD (K : PySem.W.Frag) : List V → Hp → VK → Prop := fun vs H Q => ∃ (a : Addr) (xs : List V) (ds : List PyData), vs = [V.ref a] ∧ SqL K H a xs ∧ DpAll K H xs ds ∧ PySem.W.AllAlike ds ∧ PySem.W.Sortable ds ∧ ds.length ≤ sizeLine ∧ (∀ d ∈ ds, d.depth ≤ 60) ∧
  ∀ p, H p = none → Q (.ref p) (upd H p (.lst (((xs.zip ds).mergeSort (PySem.W.dataLe false Prod.snd)).map Prod.fst)))
theorem zip_snd : ∀ {K : PySem.W.Frag} {H : Hp} {xs : List V} {ds : List PyData}, DpAll K H xs ds → (xs.zip ds).map Prod.snd = ds
  | _, _, _, _, .nil => rfl
  | _, _, _, _, .cons h t => congrArg (_ :: ·) (zip_snd t)
theorem each_rel : ∀ {K : PySem.W.Frag} {H : Hp} {xs : List V} {ds : List PyData} {us : List Value}, DpAll K H xs ds → Vals xs us → PySem.W.EachIs (fun (v : Value) (b : V × PyData) => RelV b.1 v) us (xs.zip ds)
  | _, _, _, _, _, .nil, .nil => .nil
  | _, _, _, _, _, .cons h t, .cons r rt => .cons r (each_rel t rt)
theorem vals_each : ∀ {us : List Value} {bs : List (V × PyData)}, PySem.W.EachIs (fun (v : Value) (b : V × PyData) => RelV b.1 v) us bs → Vals (bs.map Prod.fst) us
  | _, _, .nil => .nil
  | _, _, .cons h t => .cons h (vals_each t)
section
variable {X : Cx} {pins : List (Addr × Obj)} {σ : L2.St} {H : Hp} {s : Shared}
theorem each_reads (I : Inv X pins σ H s) : ∀ {xs : List V} {ds : List PyData} {us : List Value}, DpAll X.K H xs ds → Vals xs us → PySem.W.EachIs (fun (v : Value) (b : V × PyData) => ∃ as, Reads s.heap v b.2 as) us (xs.zip ds)
  | _, _, _, .nil, .nil => .nil
  | _, _, _, .cons h t, .cons r rt => .cons (Dp.reads I _ _ _ h r) (each_reads I t rt)
end
theorem cr_sortedData {X : Cx} (hu : X.A.units + 64 < cLine) : CallR X (.builtin "sorted") (rSortD X.K) := by
  intro pins s σ H vs us Q I r h
  obtain ⟨a, xs, ds, rfl, hl, hd, hal, hk, hz, hdep, q⟩ := h
  rw [Vals.ref1 r]
  obtain ⟨its, rv, pl, _⟩ := I.list hl
  have es := zip_snd hd
  have zl : (xs.zip ds).length = ds.length := by
    have z := congrArg List.length es
    rw [List.length_map] at z
    exact z
  refine PySem.W.sorted_data (vs := its) (bs := xs.zip ds) (enc := Prod.snd) (R := fun v b => RelV b.1 v) pl.isList (each_rel hd rv) (each_reads I hd rv) (by rw [es]; exact hal) (by rw [es]; exact hk) (by rw [zl]; exact hz) (fun b hb => ?_) fun out ol oe => ?_
  · have z : b.2 ∈ ds := by
      rw [← es]
      exact List.mem_map.mpr ⟨b, hb, rfl⟩
    have y := hdep _ z
    omega
  · obtain ⟨e, he⟩ := sortedAll_at s.heap its out.toArray
    have rv2 := vals_each oe
    have len : (((xs.zip ds).mergeSort (PySem.W.dataLe false Prod.snd)).map Prod.fst).length ≤ sizeLine := by
      rw [List.length_map, List.length_mergeSort, zl]
      exact hz
    exact ⟨.ref (s.heap.objs.size + 1), _, I.laid (t' := s.toks) (fun b u eb => sortedAll_old eb) (Nat.le_succ _) (show ObjOk X.prog X.w _ _ _ (.lst _) from ⟨len, out, e, rv2, he⟩), rfl, q _ (I.hok.fresh (Nat.le_succ _))⟩
end SortD
namespace Dl
open PySem PySem.Spec PyProof.Rows L2
theorem TlAll.zip_mem {F : Hp} : ∀ {xs : List V} {ds : List D}, TlAll F xs ds → ∀ b ∈ xs.zip ds, Tl F b.1 b.2
  | _, _, .nil, b, h => by cases h
  | _, _, .cons h t, b, hb => by
    rcases List.mem_cons.mp hb with e | e
    · rw [e]
      exact h
    · exact TlAll.zip_mem t b e
theorem TlAll.of_pairs {F : Hp} : ∀ {bs : List (V × D)}, (∀ b ∈ bs, Tl F b.1 b.2) → TlAll F (bs.map Prod.fst) (bs.map Prod.snd)
  | [], _ => .nil
  | b :: bs, h => .cons (h b List.mem_cons_self) (TlAll.of_pairs fun x hx => h x (List.mem_cons_of_mem _ hx))
theorem TlAll.zip_snd {F : Hp} : ∀ {xs : List V} {ds : List D}, TlAll F xs ds → (xs.zip ds).map Prod.snd = ds
  | _, _, .nil => rfl
  | _, _, .cons h t => congrArg (_ :: ·) (TlAll.zip_snd t)
/-- sorted, on data: some order es of ds that the data's order finds sorted -/
theorem sorted {K : PySem.W.Frag} {ds : List D} (hal : PySem.W.AllAlike ds) (hk : PySem.W.Sortable ds) (hz : ds.length ≤ 100000) (hdep : ∀ d ∈ ds, d.depth ≤ 60) : RC (SortD.rSortD K) [.list ds] (.list (ds.mergeSort (PySem.W.dataLe false id))) := fun F1 H1 e xs hx Q q => by
  cases hx with
  | cons hv tl =>
    cases tl
    cases hv with
    | @lst a ys _ h1 t1 =>
      refine ⟨a, ys, ds, rfl, .inl (.inl (e _ _ h1)), TlAll.dp (t1.mono e), hal, hk, Evl.sz_of hz, hdep, fun p hp => ?_⟩
      have st : Stp F1 H1 _ _ := .new (o := .lst (((ys.zip ds).mergeSort (PySem.W.dataLe false Prod.snd)).map Prod.fst)) e hp
      refine q _ _ _ st (.lst upd_same ?_)
      have z := TlAll.of_pairs (F := F1) (bs := (ys.zip ds).mergeSort (PySem.W.dataLe false Prod.snd)) fun b hb => t1.zip_mem b (List.mem_mergeSort.mp hb)
      have m : ((ys.zip ds).mergeSort (PySem.W.dataLe false Prod.snd)).map Prod.snd = ds.mergeSort (PySem.W.dataLe false id) := by
        have y := List.map_mergeSort (r := PySem.W.dataLe false (Prod.snd (α := V) (β := D))) (s := PySem.W.dataLe false id) (f := Prod.snd) (l := ys.zip ds) (fun a _ b _ => rfl)
        rw [t1.zip_snd] at y
        exact y
      rw [m] at z
      exact z.mono st.f
end Dl
set_option Elab.async false
set_option linter.all false
set_option maxRecDepth 100000
set_option maxHeartbeats 4000000
/-! sorted(a dict whose keys are tuples of texts and numbers) -/
namespace SortD
open PySem PySem.Spec PyProof.Rows L2
def keyD : Key → PyData
  | .inl i => .int i
  | .inr x => .str x
def rowD (k : List Key) : PyData := .tuple (k.map keyD)
def rSortK : List V → Hp → VK → Prop := fun vs H Q => ∃ (d : Addr) (kvs : List (List Key × V)), vs = [V.ref d] ∧ Rd H d (.dT kvs) ∧ PySem.W.AllAlike (kvs.map fun p => rowD p.1) ∧ PySem.W.Sortable (kvs.map fun p => rowD p.1) ∧
  ∀ p bs, H p = none → IsKeys H kvs bs → Q (.ref p) (upd H p (.lst ((((bs.map V.ref).zip (kvs.map fun p => rowD p.1)).mergeSort (PySem.W.dataLe false Prod.snd)).map Prod.fst)))
theorem key_dp {K : PySem.W.Frag} {H : Hp} : ∀ k : List Key, DpAll K H (k.map kV) (k.map keyD)
  | [] => .nil
  | .inl i :: k => .cons (.int i) (key_dp k)
  | .inr x :: k => .cons (.str x) (key_dp k)
theorem keys_dp {K : PySem.W.Frag} {H : Hp} : ∀ {kvs : List (List Key × V)} {bs : List Addr}, IsKeys H kvs bs → DpAll K H (bs.map V.ref) (kvs.map fun p => rowD p.1)
  | _, _, .nil => .nil
  | _, _, .cons h t => .cons (.tup (.inl (.inl h)) (key_dp _)) (keys_dp t)
theorem key_depth : ∀ k : List Key, PyData.depthAll (k.map keyD) = 0
  | [] => rfl
  | .inl i :: k => by
    show max 0 (PyData.depthAll (k.map keyD)) = 0
    rw [key_depth k]
    rfl
  | .inr i :: k => by
    show max 0 (PyData.depthAll (k.map keyD)) = 0
    rw [key_depth k]
    rfl
theorem cr_sortedK {X : Cx} (hc : X.calm = true) (hu : X.A.units + 64 < cLine) : CallR X (.builtin "sorted") rSortK := by
  intro pins s σ H vs us Q I r h
  obtain ⟨d, kvs, rfl, hd, hal, hk, q⟩ := h
  rw [Vals.ref1 r]
  obtain ⟨z, hs, ks, pr, o, es, ep, ho, hx, hdt, he, hn⟩ := (show ObjOk X.prog X.w H s.heap d (.dT kvs) from hd.ok I.hok)
  have n1 : es.size = ks.length := size_of_entries he
  have n2 : kvs.length = ks.length := Paired.length pr
  refine Calls.call_function_entry PyProof.Rows.kind_sorted PyProof.Rows.plain_sorted PyProof.Rows.entry_sorted (PyProof.Rows.args_sorted1 _) ?_
  unfold Builtin.«sorted»
  refine wpAny_bind (m := checkCount "sorted" 1 1 _) (wpAny_pure (wpAny_bind (PySem.W.kdu_collect (A := X.A.in1) (kdl_raw hs hx hdt) (I.ok.hd hc) ho (by omega) fun h' tk acc kp it => ?_)))
  have ea : acc.toList = (ks.map fun x => x.2.1).map Value.ref := by
    have al : acc.toList.length = ks.length := by rw [Array.length_toList, it.1]; exact n1
    rw [List.map_map]
    apply List.ext_getElem?
    intro j
    rw [List.getElem?_map]
    rcases ea : acc.toList[j]? with _ | v
    · rw [List.getElem?_eq_none (by have := List.getElem?_eq_none_iff.mp ea; omega)]
      rfl
    · obtain ⟨en, hen, hv⟩ := it.2 j v (by rw [← Array.getElem?_toList]; exact ea)
      have qe := entry_at he j
      rw [hen] at qe
      rcases eb : ks[j]? with _ | y
      · rw [eb] at qe
        exact nomatch (show some en = none from qe)
      · rw [eb] at qe
        rw [hv, (Option.some.inj qe : en = entryOfKey (tupleKind (mixKind X.prog X.w)) y)]
        rfl
  have ik := isKeys_of pr
  have I1 : Inv X pins σ H { s with heap := h', toks := tk } := I.kept kp
  have rv : Vals ((ks.map fun x => x.2.1).map V.ref) acc.toList := by rw [ea]; exact vals_refs _
  have dp := keys_dp (K := X.K) ik
  have es' := zip_snd dp
  have zl : (((ks.map fun x => x.2.1).map V.ref).zip (kvs.map fun p => rowD p.1)).length = kvs.length := by
    have w := congrArg List.length es'
    rw [List.length_map, List.length_map] at w
    exact w
  have aL : acc.toList.length ≤ sizeLine := by rw [ea, List.length_map, List.length_map]; omega
  refine wpAny_bind (wpAny_newList ?_ aL)
  have oL : (h'.push (seqObj "list" acc.toList.toArray 0)).get? h'.objs.size = some (seqObj "list" acc.toList.toArray 0) := Heap.get?_push_size _ rfl
  show wpAny _ _ _ _ _ { s with heap := h'.push (seqObj "list" acc.toList.toArray 0), toks := tk }
  have old : ∀ b u, h'.get? b = some u → (PySem.W.sortingHeap (h'.push (seqObj "list" acc.toList.toArray 0)) h'.objs.size acc.toList).get? b = some u := fun b u e =>
    PySem.W.sortingHeap_old (Nat.ne_of_lt (Heap.lt_size e)) (Heap.get?_push_of_some _ e)
  have er : PySem.W.EachIs (fun (v : Value) (b : V × PyData) => ∃ as, Reads (PySem.W.sortingHeap (h'.push (seqObj "list" acc.toList.toArray 0)) h'.objs.size acc.toList) v b.2 as) acc.toList (((ks.map fun x => x.2.1).map V.ref).zip (kvs.map fun p => rowD p.1)) :=
    (each_reads I1 dp rv).mono fun v b ⟨as, rd⟩ => ⟨as, PyProof.Rows.Reads.keeps old rd⟩
  have hal' : PySem.W.AllAlike ((((ks.map fun x => x.2.1).map V.ref).zip (kvs.map fun p => rowD p.1)).map Prod.snd) := by rw [es']; exact hal
  have hk' : PySem.W.Sortable ((((ks.map fun x => x.2.1).map V.ref).zip (kvs.map fun p => rowD p.1)).map Prod.snd) := by rw [es']; exact hk
  refine wpAny_bind (wpAny_holding (wpAny_call_entry PyProof.Rows.slot_list_sort ⟨_, oL, rfl⟩ PyProof.Rows.entry_list_sort (PySem.W.list_sort_vals (s := { s with heap := h'.push (seqObj "list" acc.toList.toArray 0), toks := tk }) oL
    (PySem.W.SortsAt.data (s := { s with heap := PySem.W.sortingHeap (h'.push (seqObj "list" acc.toList.toArray 0)) h'.objs.size acc.toList, toks := tk }) (PySem.W.each_map (R := fun v d => ∃ as, Reads (PySem.W.sortingHeap (h'.push (seqObj "list" acc.toList.toArray 0)) h'.objs.size acc.toList) v d as) Prod.snd er) hal' hk' (fun d hd => ?_)) aL ⟨_, rfl, ?_⟩) (PyProof.Rows.args_list_sort _)))
  · rw [es'] at hd
    obtain ⟨kv, _, rfl⟩ := List.mem_map.mp hd
    have dz : (rowD kv.1).depth = 1 := by
      show PyData.depthAll (kv.1.map keyD) + 1 = 1
      rw [key_depth]
    rw [dz]
    show X.A.units + 2 + 1 < cLine
    omega
  · have oe := PySem.W.sortVals_data false (each_rel dp rv) er hal'
    generalize PySem.W.sortVals _ false acc.toList acc.toList = out at oe ⊢
    obtain ⟨e, he2⟩ := PyProof.Rows.sortedHeap_at (vs := acc.toList) (out := out.toArray) oL
    have rv2 := vals_each oe
    have len : (((((ks.map fun x => x.2.1).map V.ref).zip (kvs.map fun p => rowD p.1)).mergeSort (PySem.W.dataLe false Prod.snd)).map Prod.fst).length ≤ sizeLine := by
      rw [List.length_map, List.length_mergeSort, zl]
      omega
    refine wpAny_pure ⟨_, rfl, .ref h'.objs.size, _, I1.laid (t' := tk) (fun b u eb => ?_) (Nat.le_refl _) (show ObjOk X.prog X.w _ _ _ (.lst _) from ⟨len, out, e, rv2, he2⟩), rfl, q _ _ (I1.hok.fresh (Nat.le_refl _)) ik⟩
    have hb := Heap.lt_size eb
    rw [PyProof.Rows.sortedHeap_old (Nat.ne_of_lt hb) (by rw [size_push']; exact Nat.lt_succ_of_lt hb)]
    exact Heap.get?_push_of_some _ eb
end SortD
set_option Elab.async false
set_option linter.all false
set_option maxRecDepth 100000
set_option maxHeartbeats 4000000
/-! the D-layer, further: slices, tuple + tuple, tuple * number, list * number, text + text -/
namespace Dl
open PySem PySem.Spec PyProof.Rows L2
/-- the part of a row from lo to hi -/
def cutD (ds : List D) (lo hi : Option Int) : List D := (ds.drop (HT.sIx ds.length 0 lo)).take (HT.sIx ds.length ds.length hi - HT.sIx ds.length 0 lo)
def PartIs (tp : TO) (σ : L2.St) (F : Hp) (o : Option Int) : Prop := ∀ F1 H1, Ex F F1 → Ex F1 H1 → ∀ Q : Option Int → Hp → Prop, (∀ F2 H2, Stp F1 H1 F2 H2 → Q o H2) → tp σ H1 Q
section
variable {K : PySem.W.Frag} {σ : L2.St} {F : Hp} {te : TE} {tl th : TO} {ds es : List D} {lo hi : Option Int}
theorem TlAll.cut {xs : List V} (h : TlAll F xs ds) (lo hi : Option Int) : TlAll F (cutV xs lo hi) (cutD ds lo hi) := by
  unfold cutV cutD
  rw [h.length]
  exact (h.drop _).take _
theorem noPart : PartIs tNoPart σ F none := fun F1 H1 _ b Q q => q F1 H1 (.refl b)
theorem part {i : Int} (h : Ev te σ F (.int i)) : PartIs (tPart te) σ F (some i) := fun F1 H1 a b Q q => h F1 H1 a b _ fun x F2 H2 s hx => by
  cases hx
  exact ⟨i, rfl, q F2 H2 s⟩
theorem slL (h : Ev te σ F (.list ds)) (h1 : PartIs tl σ F lo) (h2 : PartIs th σ F hi) : Ev (tSl (rSlL K) te tl th) σ F (.list (cutD ds lo hi)) := fun F1 H1 a b Q q =>
  h F1 H1 a b _ fun x F2 H2 s hx => h1 F2 H2 (a.trans s.f) s.i _ fun F3 H3 s3 => h2 F3 H3 ((a.trans s.f).trans s3.f) s3.i _ fun F4 H4 s4 => by
    cases hx with
    | @lst l xs _ e t =>
      refine ⟨l, xs, rfl, .inl (.inl (s4.i _ _ (s4.f _ _ (s3.f _ _ e)))), fun p hp => ?_⟩
      have st : Stp F4 H4 _ _ := .new (o := .lst (cutV xs lo hi)) s4.i hp
      exact q _ _ _ (((s.trans s3).trans s4).trans st) (.lst upd_same ((((t.cut lo hi).mono s3.f).mono s4.f).mono st.f))
theorem cut_all (h1 : HT.sIx ds.length 0 lo = 0) (h2 : HT.sIx ds.length ds.length hi = ds.length) : cutD ds lo hi = ds := by
  unfold cutD
  rw [h1, h2, List.drop_zero, Nat.sub_zero, List.take_length]
theorem slT (h : Ev te σ F (.tuple ds)) (h1 : PartIs tl σ F lo) (h2 : PartIs th σ F hi) : Ev (tSl (rSlA K) te tl th) σ F (.tuple (cutD ds lo hi)) := fun F1 H1 a b Q q =>
  h F1 H1 a b _ fun x F2 H2 s hx => h1 F2 H2 (a.trans s.f) s.i _ fun F3 H3 s3 => h2 F3 H3 ((a.trans s.f).trans s3.f) s3.i _ fun F4 H4 s4 => by
    cases hx with
    | @tup l xs _ e t =>
      have len := t.length
      have s24 := (s.trans s3).trans s4
      refine ⟨l, xs, rfl, .inl (.inl (s4.i _ _ (s4.f _ _ (s3.f _ _ e)))), fun hh => ?_, fun _ p hp => ?_⟩
      · rw [len] at hh
        rw [cut_all hh.1 hh.2] at q
        exact q _ F4 H4 s24 (.tup (s4.f _ _ (s3.f _ _ e)) ((t.mono s3.f).mono s4.f))
      · have st : Stp F4 H4 _ _ := .new (o := .tup (cutV xs lo hi)) s4.i hp
        exact q _ _ _ (s24.trans st) (.tup upd_same ((((t.cut lo hi).mono s3.f).mono s4.f).mono st.f))
theorem catT (hz : ds.length + es.length ≤ 100000) : RV (rCatA K) (.tuple ds) (.tuple es) (.tuple (ds ++ es)) := fun F1 H1 e x y hx hy Q q => by
  cases hx with
  | @tup a xs _ h1 t1 =>
    cases hy with
    | @tup b ys _ h2 t2 =>
      refine ⟨a, b, xs, ys, rfl, rfl, .inl (.inl (e _ _ h1)), .inl (.inl (e _ _ h2)), Evl.sz_of (by rw [t1.length, t2.length]; exact hz), fun z => ?_, fun _ z => ?_, fun _ _ p hp => ?_⟩
      · subst z
        cases t1
        exact q _ F1 H1 (.refl e) (.tup h2 t2)
      · subst z
        cases t2
        rw [List.append_nil] at q
        exact q _ F1 H1 (.refl e) (.tup h1 t1)
      · have st : Stp F1 H1 _ _ := .new (o := .tup (xs ++ ys)) e hp
        exact q _ _ _ st (.tup upd_same ((t1.append t2).mono st.f))
theorem TlAll.rep {xs : List V} (h : TlAll F xs ds) : ∀ k : Nat, TlAll F (List.replicate k xs).flatten (List.replicate k ds).flatten
  | 0 => .nil
  | k + 1 => by
    rw [List.replicate_succ, List.replicate_succ, List.flatten_cons, List.flatten_cons]
    exact h.append (TlAll.rep h k)
theorem repT {k : Int} (h0 : ds ≠ []) (h1 : 2 ≤ k ∧ k ≤ 1000) (hz : ds.length ≤ 1000) : RV (rRepT K) (.tuple ds) (.int k) (.tuple (List.replicate k.toNat ds).flatten) := fun F1 H1 e x y hx hy Q q => by
  cases hy
  cases hx with
  | @tup a xs _ g1 t1 =>
    refine ⟨a, k, xs, rfl, rfl, .inl (.inl (e _ _ g1)), fun z => ?_, h1.1, h1.2, by rw [t1.length]; exact hz, fun p hp => ?_⟩
    · subst z
      cases t1
      exact h0 rfl
    · have st : Stp F1 H1 _ _ := .new (o := .tup (List.replicate k.toNat xs).flatten) e hp
      exact q _ _ _ st (.tup upd_same ((t1.rep k.toNat).mono st.f))
theorem repL {k : Int} (h1 : 0 ≤ k ∧ k ≤ 1000) (hz : ds.length ≤ 100) : RV rRep (.list ds) (.int k) (.list (List.replicate k.toNat ds).flatten) := fun F1 H1 e x y hx hy Q q => by
  cases hy
  cases hx with
  | @lst a xs _ g1 t1 =>
    have len := t1.length
    have sL := sizeLine_eq
    have m : xs.length * k.toNat ≤ 100 * 1000 := Nat.mul_le_mul (by omega) (by omega)
    refine ⟨a, k, xs, rfl, rfl, e _ _ g1, by omega, by omega, by omega, fun p hp => ?_⟩
    have st : Stp F1 H1 _ _ := .new (o := .lst (List.replicate k.toNat xs).flatten) e hp
    exact q _ _ _ st (.lst upd_same ((t1.rep k.toNat).mono st.f))
theorem strCat {a b : Str} (hz : a.length + b.length ≤ sizeLine) : RV (fun x y H Q => ∃ i j, x = .str i ∧ y = .str j ∧ i.length + j.length ≤ sizeLine ∧ Q (.str (i ++ j)) H) (.str a) (.str b) (.str (a ++ b)) := fun F1 H1 e x y hx hy Q q => by
  cases hx
  cases hy
  exact ⟨a, b, rfl, rfl, hz, q _ F1 H1 (.refl e) (.str _)⟩
end
end Dl
set_option Elab.async false
set_option linter.all false
set_option maxRecDepth 100000
set_option maxHeartbeats 4000000
namespace Dl
open PySem PySem.Spec PyProof.Rows L2
theorem kept_mem {n : Nat} {f : Nat → Bool} {g : Nat → D} {d : D} (h : d ∈ kept n f g) : ∃ i, i < n ∧ f i = true ∧ d = g i := by
  unfold kept at h
  obtain ⟨i, hi, rfl⟩ := List.mem_map.mp h
  obtain ⟨h1, h2⟩ := List.mem_filter.mp hi
  exact ⟨i, List.mem_range.mp h1, h2, rfl⟩
theorem kept_empty {n : Nat} {f : Nat → Bool} {g : Nat → D} : (kept n f g).isEmpty = (List.range n).all fun i => !f i := by
  unfold kept
  rw [List.isEmpty_map]
  rw [Bool.eq_iff_iff, List.isEmpty_iff, List.filter_eq_nil_iff, List.all_eq_true]
  exact ⟨fun h i hi => by rw [Bool.not_eq_true']; exact Bool.eq_false_iff.mpr (h i hi), fun h i hi => by
    have z := h i hi
    rw [Bool.not_eq_true'] at z
    rw [z]
    exact Bool.false_ne_true⟩
theorem all_range_of {α : Type} (p : α → Bool) (l : List α) (f : Nat → Bool) (h : ∀ i c, l[i]? = some c → f i = p c) : (List.range l.length).all f = l.all p := by
  rw [Bool.eq_iff_iff, List.all_eq_true, List.all_eq_true]
  refine ⟨fun a x hx => ?_, fun a i hi => ?_⟩
  · obtain ⟨i, hi, rfl⟩ := List.mem_iff_getElem.mp hx
    rw [← h i _ (List.getElem?_eq_getElem hi)]
    exact a i (List.mem_range.mpr hi)
  · have hi' := List.mem_range.mp hi
    rw [h i _ (List.getElem?_eq_getElem hi')]
    exact a _ (List.getElem_mem hi')
theorem shaped_of {ds : List D} (h : ∀ d ∈ ds, PyData.canLay0 d = true ∧ PyData.depth d ≤ 60) : SeqAt.shaped (.list ds) = true := by
  have c : PyData.canLayAll0 ds = true := by
    induction ds with
    | nil => rfl
    | cons d ds ih =>
      show (PyData.canLay0 d && PyData.canLayAll0 ds) = true
      rw [(h d List.mem_cons_self).1, ih fun x hx => h x (List.mem_cons_of_mem _ hx)]
      rfl
  have e : PyData.depthAll ds ≤ 60 := by
    clear c
    induction ds with
    | nil => exact Nat.zero_le _
    | cons d ds ih =>
      have a := (h d List.mem_cons_self).2
      have b := ih fun x hx => h x (List.mem_cons_of_mem _ hx)
      show max (PyData.depth d) (PyData.depthAll ds) ≤ 60
      omega
  unfold SeqAt.shaped
  rw [Bool.and_eq_true]
  refine ⟨c, decide_eq_true ?_⟩
  show PyData.depthAll ds + 1 ≤ 64
  omega
theorem depth_at : ∀ {ds : List D} {i : Nat} {d : D}, ds[i]? = some d → PyData.depth d ≤ PyData.depthAll ds
  | [], i, d, e => by simp at e
  | x :: xs, 0, d, e => by
    have z := Option.some.inj (show some x = some d from e)
    subst z
    show PyData.depth x ≤ max (PyData.depth x) (PyData.depthAll xs)
    omega
  | x :: xs, i + 1, d, e => by
    have z := depth_at (ds := xs) (i := i) (d := d) (by simpa using e)
    show PyData.depth d ≤ max (PyData.depth x) (PyData.depthAll xs)
    omega
end Dl
namespace Lw
open PySem PySem.Spec PyProof.Rows L2
abbrev sLWord : Stmt := topS 32
theorem scLWord : FnScope ["_law_value", "_law_sign"] ["_law_value"] (defScope sLWord) := ⟨rfl, rfl, rfl, by decide +kernel, rfl, by decide +kernel, by decide +kernel⟩
theorem eqv_nilL (ds : List PyData) : PyData.eqv (.list ds) (.list []) = ds.isEmpty := by
  cases ds <;> simp [PyData.eqv, PyData.eqvAll]
theorem str_empty (z : Str) : (z == ("" : Str)) = decide (z.length = 0) := by
  rw [Bool.eq_iff_iff, beq_iff_eq, decide_eq_true_iff]
  constructor
  · intro h
    rw [h]
    decide +kernel
  · intro h
    obtain ⟨⟨x⟩⟩ := z
    have e : x = [] := List.length_eq_zero_iff.mp h
    subst e
    decide +kernel
section
variable {P : Program} {w : World} {K : PySem.W.Frag} {mg : Str → Option Value} {base : Heap}
theorem ok_lword {f : Addr} {fd : FuncData} (F : Fun K "_law_is_word" "_law_is_word" sLWord f fd) (mi : mg "isinstance" = none) (ms : mg "str" = none) (ml : mg "len" = none) :
    FnOk P w K mg base CX0 1 f fd ["_law_value"] spWord := by
  refine F.ok scLWord (fun vs H Q E h => ?_) (fun cdv A outer s H vs Q E hr h => ?_)
  · obtain ⟨F, ds, _, ht, ⟨d, rfl, _⟩, _⟩ := h
    exact ht.length
  · obtain ⟨F, ds, b, ht, ⟨d, rfl, hd⟩, q⟩ := h
    have nd := scLWord.nd
    refine ⟨_, pss_cons (ps_if (PW.pt (pw_or (pt_not (pt_val (pe_callB call_isi (by rfl) mi (by decide +kernel) (pa_cons (pv 0) (pa_cons (pe_bltn (v := .ty "str") (by rfl) ms (by decide +kernel) rfl) pa_nil)))))
        (pw_or (pt_cmpR (op_eqD hr.units) (pv 0) pe_str (nomark _)) (pw_or1 (pt_cmpR op_gt (pe_callB call_len (by rfl) ml PySem.boot_len (pa_cons (pv 0) pa_nil)) pe_int (nomark _)))))) (pss_one (ps_ret pe_bl)) pss_nil)
      (pss_one (ps_ret (pe_cmpR (op_eqD hr.units) (pe_lc (own := [("_law_sign", 1)]) (g := gName 1) (tt := tTest (tOp (fun x y H Q => ∃ (c : Nat) (z : Str), x = .str ⟨#[c]⟩ ∧ y = .str z ∧ Q (.bl (!decide (c ∈ z.cps.toList))) H) (tVar 1) (tC (.str letters)))) (te := tVar 1) (by rfl) nd (pi_str (pv 0))
        (blkOk_by (own := [("_law_sign", 1)]) (N := ["_law_value", "_law_sign"]) (sc := defScope sLWord) (by decide +kernel))
        (fun _ _ _ _ _ => pg_name (i := 1) nd rfl (.inl rfl)) (fun _ _ _ _ _ => pts_one (pt_cmpR op_notIn_sign (pv 1) pe_str (by with_unfolding_all rfl))) (fun _ _ _ _ _ => pv 1)) (pe_lst pa_nil) (nomark _)))), ?_⟩
    cases ht with
    | @cons x _ _ _ hx tl =>
    cases tl
    cases hz : Dl.isStr d with
    | false =>
      refine Dl.q_when (F := F) (c := true) (Dl.tis (Dl.tor (Dl.tnot (Dl.testB (Dl.isi (Dl.var rfl hx) (Dl.kitStr d)))) (fun z => ?_) (b := false)) (by rw [hz]; rfl)) b (fun _ F1 H1 s1 => ?_) (fun z => Bool.noConfusion z)
      · rw [hz] at z
        cases z
      · refine Dl.s_ret (F := F1) Dl.bl s1.i fun y F2 H2 s2 t2 => q y F2 H2 (s1.trans s2) ?_
        have e : wordD d = false := by
          cases d <;> first | rfl | cases hz
        show Dl.Tl F2 y (.bool (wordD d))
        rw [e]
        exact t2
    | true =>
      cases d <;> try cases hz
      rename_i z
      obtain ⟨hl, hok⟩ := Dl.fit_strOk hd
      have shz : SeqAt.shaped (.str z) = true := by
        unfold SeqAt.shaped
        rw [Bool.and_eq_true]
        exact ⟨hok, rfl⟩
      have es : PyData.eqv (.str z) (.str "") = decide (z.length = 0) := by
        rw [← str_empty]
        simp [PyData.eqv]
      refine Dl.q_when (F := F) (c := decide (z.length = 0) || decide ((8 : Int) < (z.length : Int))) (Dl.tis (Dl.tor (Dl.tnot (Dl.testB (Dl.isi (Dl.var rfl hx) (Dl.kitStr _)))) (fun _ => Dl.tor (Dl.test (Dl.op (Dl.var rfl hx) Dl.str (Dl.eqD shz (by decide +kernel)))) (fun _ => Dl.test (Dl.op (Dl.call (Dl.cons (Dl.var rfl hx) Dl.nil) (Dl.len (n := z.length) (by
          show (if z.length ≤ sizeLine then some z.length else none) = _
          rw [if_pos (by have := sizeLine_eq; omega)]))) Dl.int Dl.rI0b)))) (by rw [es]; rfl)) b (fun hc F1 H1 s1 => ?_) (fun hc F1 H1 s1 => ?_)
      · refine Dl.s_ret (F := F1) Dl.bl s1.i fun y F2 H2 s2 t2 => q y F2 H2 (s1.trans s2) ?_
        have e : wordD (.str z) = false := by
          show ((decide (1 ≤ (z.length : Int)) && decide ((z.length : Int) ≤ 8)) && z.cps.toList.all small) = false
          rcases Bool.or_eq_true_iff.mp hc with h | h
          · have h0 := of_decide_eq_true h
            rw [decide_eq_false (by omega : ¬ 1 ≤ (z.length : Int))]
            rfl
          · have h0 := of_decide_eq_true h
            rw [decide_eq_false (by omega : ¬ (z.length : Int) ≤ 8), Bool.and_false]
            rfl
        show Dl.Tl F2 y (.bool (wordD (.str z)))
        rw [e]
        exact t2
      · obtain ⟨h1, h2⟩ := Bool.or_eq_false_iff.mp hc
        have h1' := of_decide_eq_false h1
        have h2' := of_decide_eq_false h2
        have gz : ∀ i c, z.cps[i]? = some c → z.cps.toList.getD i 0 = c := fun i c hi => by
          rw [List.getD_eq_getElem?_getD, Array.getElem?_toList, hi]
          rfl
        refine Dl.s_ret (F := F1) (Dl.op (Dl.lcS (fun i => !small (z.cps.toList.getD i 0)) (fun i => .str ⟨#[z.cps.toList.getD i 0]⟩) (Dl.var rfl (hx.mono s1.f)) (by show z.length ≤ 40000; omega) (fun _ => rfl) (fun i c G eg hi => Dl.tis (Dl.test (Dl.op (Dl.var rfl (.str _)) Dl.str Dl.notInSign)) (by rw [gz i c hi]; rfl)) (fun i c G eg hi _ => by
            rw [gz i c hi]
            exact Dl.var rfl (.str _))) (Dl.lst Dl.nil (by decide)) (Dl.eqD (Dl.shaped_of fun d hd => ?_) (by decide +kernel))) s1.i fun y F2 H2 s2 t2 => q y F2 H2 (s1.trans s2) ?_
        · obtain ⟨i, hi, _, rfl⟩ := Dl.kept_mem hd
          refine ⟨?_, Nat.zero_le _⟩
          show PyData.strOk ⟨#[z.cps.toList.getD i 0]⟩ = true
          have hm : z.cps[i] ∈ z.cps := Array.getElem_mem hi
          have ok := Array.all_eq_true.mp (show z.cps.all (· < 0x110000) = true from hok) i hi
          rw [gz i _ (Array.getElem?_eq_getElem hi)]
          show (#[z.cps[i]].all (· < 0x110000)) = true
          simpa using ok
        · have e : wordD (.str z) = (Dl.kept z.cps.size (fun i => !small (z.cps.toList.getD i 0)) (fun i => .str ⟨#[z.cps.toList.getD i 0]⟩)).isEmpty := by
            rw [Dl.kept_empty, ← Array.length_toList, Dl.all_range_of small z.cps.toList _ (fun i c hi => by rw [Bool.not_not, List.getD_eq_getElem?_getD, hi]; rfl)]
            show ((decide (1 ≤ (z.length : Int)) && decide ((z.length : Int) ≤ 8)) && z.cps.toList.all small) = _
            rw [decide_eq_true (by omega : 1 ≤ (z.length : Int)), decide_eq_true (by omega : (z.length : Int) ≤ 8)]
            rfl
          show Dl.Tl F2 y (.bool (wordD (.str z)))
          rw [e, ← eqv_nilL]
          exact t2
end
end Lw
set_option Elab.async false
set_option linter.all false
set_option maxRecDepth 100000
set_option maxHeartbeats 4000000
namespace Lw
open PySem PySem.Spec PyProof.Rows L2
abbrev sLKinds : Stmt := topS 33
theorem scLKinds : FnScope ["_law_value", "_law_least", "_law_one"] ["_law_value", "_law_least"] (defScope sLKinds) := ⟨rfl, rfl, rfl, by decide +kernel, rfl, by decide +kernel, by decide +kernel⟩
abbrev okFlat (d : PyData) : Prop := Dl.fit d = true ∧ PyData.depth d ≤ 50
abbrev spLKinds : Sp := Dl.spF (fun ds => ∃ d lo, ds = [d, .int lo] ∧ okFlat d) fun ds => match ds with
  | [d, .int lo] => .bool (kindsD lo 4 d)
  | _ => .none
section
variable {P : Program} {w : World} {K : PySem.W.Frag} {mg : Str → Option Value} {base : Heap}
theorem ok_lkinds {f fW : Addr} {fd fdW : FuncData} (F : Fun K "_law_are_kinds" "_law_are_kinds" sLKinds f fd) (FW : Fun K "_law_is_word" "_law_is_word" sLWord fW fdW) (bW : Binds K fdW ["_law_value"] []) (gW : mg "_law_is_word" = some (.ref fW)) (GW : FnOk P w K mg base CX0 1 fW fdW ["_law_value"] spWord)
    (mi : mg "isinstance" = none) (mt : mg "tuple" = none) (ml : mg "len" = none) :
    FnOk P w K mg base CX0 3 f fd ["_law_value", "_law_least"] spLKinds := by
  refine F.ok scLKinds (fun vs H Q E h => ?_) (fun cdv A outer s H vs Q E hr h => ?_)
  · obtain ⟨F, ds, _, ht, ⟨d, lo, rfl, _⟩, _⟩ := h
    exact ht.length
  · obtain ⟨F, ds, b, ht, ⟨d, lo, rfl, hd, hdep⟩, q⟩ := h
    have nd := scLKinds.nd
    have hr1 : Room 1 (A.deeper (envOfC "_law_are_kinds" (defScope sLKinds) s.heap.objs.size f cdv)) := hr.mono (by decide)
    refine ⟨_, pss_cons (ps_if (PW.pt (pw_or (pt_not (pt_val (pe_callB call_isi (by rfl) mi (by decide +kernel) (pa_cons (pv 0) (pa_cons (pe_bltn (v := .ty "tuple") (by rfl) mt (by decide +kernel) rfl) pa_nil)))))
        (pw_or (pt_cmpR op_lt (pe_callB call_len (by rfl) ml PySem.boot_len (pa_cons (pv 0) pa_nil)) (pv 1) (nomark _)) (pw_or1 (pt_cmpR op_gt (pe_callB call_len (by rfl) ml PySem.boot_len (pa_cons (pv 0) pa_nil)) pe_int (nomark _)))))) (pss_one (ps_ret pe_bl)) pss_nil)
      (pss_one (ps_ret (pe_cmpR (op_eqD hr.units) (pe_lc (own := [("_law_one", 2)]) (g := gName 2) (tt := tNot (tB (tCall spWord [] E0 (tCons (tVar 2) tNil)))) (te := tVar 2) (by rfl) nd (pi_tup (pv 0))
        (blkOk_by (own := [("_law_one", 2)]) (N := ["_law_value", "_law_least", "_law_one"]) (sc := defScope sLKinds) (by decide +kernel))
        (fun _ _ _ _ _ => pg_name (i := 2) nd rfl (.inl rfl)) (fun _ _ _ _ _ => pts_one (pt_not (pt_val (pe_call GW hr1 (by rfl) gW FW.kp bW .nil pass0 (pa_cons (pv 2) pa_nil))))) (fun _ _ _ _ _ => pv 2)) (pe_lst pa_nil) (nomark _)))), ?_⟩
    cases ht with
    | @cons x _ _ _ hx tl =>
    cases tl with
    | @cons x1 _ _ _ hx1 tl =>
    cases tl
    have t1 : Dl.Tl F x1 (.int lo) := hx1
    cases hz : Dl.isTup d with
    | false =>
      refine Dl.q_when (F := F) (c := true) (Dl.tis (Dl.tor (Dl.tnot (Dl.testB (Dl.isi (Dl.var rfl hx) (Dl.kitTup d)))) (fun z => ?_) (b := false)) (by rw [hz]; rfl)) b (fun _ F1 H1 s1 => ?_) (fun z => Bool.noConfusion z)
      · rw [hz] at z
        cases z
      · refine Dl.s_ret (F := F1) Dl.bl s1.i fun y F2 H2 s2 t2 => q y F2 H2 (s1.trans s2) ?_
        have e : kindsD lo 4 d = false := by
          cases d <;> first | rfl | cases hz
        show Dl.Tl F2 y (.bool (kindsD lo 4 d))
        rw [e]
        exact t2
    | true =>
      cases d <;> try cases hz
      rename_i xs
      have hl := (Dl.fit_tup hd).1
      have hf := (Dl.fit_tup hd).2
      have lenE : ∀ {σ : L2.St} {G : Hp} {v : V}, σ[0]? = some (some v) → Dl.Tl G v (.tuple xs) → Dl.Ev (tCB (Dl.rLenA K) (tCons (tVar 0) tNil)) σ G (.int (xs.length : Int)) := fun h t => Dl.call (Dl.cons (Dl.var h t) Dl.nil) (Dl.len (n := xs.length) rfl)
      refine Dl.q_when (F := F) (c := decide ((xs.length : Int) < lo) || decide ((4 : Int) < (xs.length : Int))) (Dl.tis (Dl.tor (Dl.tnot (Dl.testB (Dl.isi (Dl.var rfl hx) (Dl.kitTup _)))) (fun _ => Dl.tor (Dl.test (Dl.op (lenE rfl hx) (Dl.var rfl t1) Dl.rI0b)) (fun _ => Dl.test (Dl.op (lenE rfl hx) Dl.int Dl.rI0b)))) rfl) b (fun hc F1 H1 s1 => ?_) (fun hc F1 H1 s1 => ?_)
      · refine Dl.s_ret (F := F1) Dl.bl s1.i fun y F2 H2 s2 t2 => q y F2 H2 (s1.trans s2) ?_
        have e : kindsD lo 4 (.tuple xs) = false := by
          show ((decide (lo ≤ (xs.length : Int)) && decide ((xs.length : Int) ≤ 4)) && xs.all wordD) = false
          rcases Bool.or_eq_true_iff.mp hc with h | h
          · have h0 := of_decide_eq_true h
            rw [decide_eq_false (by omega : ¬ lo ≤ (xs.length : Int))]
            rfl
          · have h0 := of_decide_eq_true h
            rw [decide_eq_false (by omega : ¬ (xs.length : Int) ≤ 4), Bool.and_false]
            rfl
        show Dl.Tl F2 y (.bool (kindsD lo 4 (.tuple xs)))
        rw [e]
        exact t2
      · obtain ⟨h1, h2⟩ := Bool.or_eq_false_iff.mp hc
        have h1' := of_decide_eq_false h1
        have h2' := of_decide_eq_false h2
        have gx : ∀ i d, xs[i]? = some d → xs.getD i .none = d := fun i d hi => by
          rw [List.getD_eq_getElem?_getD, hi]
          rfl
        refine Dl.s_ret (F := F1) (Dl.op (Dl.lcT (ds := xs) (fun i => !wordD (xs.getD i .none)) (fun i => xs.getD i .none) (Dl.var rfl (hx.mono s1.f)) (by omega) (fun _ => rfl) (fun i x d G eg hi hx => Dl.tis (Dl.tnot (Dl.testB (Dl.callF (Dl.cons (Dl.var rfl hx) Dl.nil) ⟨d, rfl, Dl.fits_at hf hi⟩))) (by rw [gx i d hi]; rfl)) (fun i x d G eg hi hx _ => by
            rw [gx i d hi]
            exact Dl.var rfl hx)) (Dl.lst Dl.nil (by decide)) (Dl.eqD (Dl.shaped_of fun d hd' => ?_) (by decide +kernel))) s1.i fun y F2 H2 s2 t2 => q y F2 H2 (s1.trans s2) ?_
        · obtain ⟨i, hi, _, rfl⟩ := Dl.kept_mem hd'
          have e := gx i _ (List.getElem?_eq_getElem hi)
          rw [e]
          refine ⟨Dl.fit_lay (Dl.fits_at hf (List.getElem?_eq_getElem hi)), ?_⟩
          have a := Dl.depth_at (List.getElem?_eq_getElem hi)
          have c : PyData.depthAll xs + 1 ≤ 50 := hdep
          omega
        · have e : kindsD lo 4 (.tuple xs) = (Dl.kept xs.length (fun i => !wordD (xs.getD i .none)) (fun i => xs.getD i .none)).isEmpty := by
            rw [Dl.kept_empty, Dl.all_range_of wordD xs _ (fun i c hi => by rw [Bool.not_not, gx i c hi])]
            show ((decide (lo ≤ (xs.length : Int)) && decide ((xs.length : Int) ≤ 4)) && xs.all wordD) = _
            rw [decide_eq_true (by omega : lo ≤ (xs.length : Int)), decide_eq_true (by omega : (xs.length : Int) ≤ 4)]
            rfl
          show Dl.Tl F2 y (.bool (kindsD lo 4 (.tuple xs)))
          rw [e, ← eqv_nilL]
          exact t2
end
end Lw
set_option Elab.async false
set_option linter.all false
set_option maxRecDepth 100000
set_option maxHeartbeats 4000000
namespace Dl
open PySem PySem.Spec PyProof.Rows L2
def rListT (K : PySem.W.Frag) : List V → Hp → VK → Prop := fun xs H Q => ∃ p ys, xs = [.ref p] ∧ (SqL K H p ys ∨ SqT K H p ys) ∧ ∀ l, H l = none → Q (.ref l) (upd H l (.lst ys))
theorem listT {K : PySem.W.Frag} {ds : List D} : RC (rListT K) [.tuple ds] (.list ds) := fun F1 H1 e xs hx Q q => by
  cases hx with
  | cons hv tl =>
    cases tl
    cases hv with
    | @tup a ys _ h1 t1 => exact ⟨a, ys, rfl, .inr (.inl (.inl (e _ _ h1))), fun l hl => q _ _ _ (.new e hl) (.lst upd_same (t1.mono (Evl.Ex.new (Evl.fresh_back e hl))))⟩
def rInt1 : List V → Hp → VK → Prop := fun xs H Q => (∃ i, xs = [.int i] ∧ Q (.int i) H) ∨ ∃ k, xs = [.bl k] ∧ Q (.int (if k then 1 else 0)) H
theorem intB {b : Bool} : RC rInt1 [.bool b] (.int (if b then 1 else 0)) := fun F1 H1 e xs hx Q q => by
  cases hx with
  | cons hv tl =>
    cases tl
    cases hv
    exact .inr ⟨b, rfl, q _ F1 H1 (.refl e) (.int _)⟩
theorem q_forR {ta : TA} {j : Nat} {tu tz : TS} {DD : Ends} {σ : L2.St} {F H : Hp} {n : Int} (h : EvA ta σ F [.int n]) (b : Ex F H) (hn : 0 ≤ n ∧ n ≤ 100000) (Pv : Nat → L2.St → Hp → Prop) (h0 : ∀ F1 H1, Stp F H F1 H1 → Pv 0 σ H1)
    (hs : ∀ (i : Nat) σ' H', (i : Int) < n → Pv i σ' H' → tu { DD with nx := Pv (i + 1), ct := Pv (i + 1), bk := tz DD } (σ'.set j (some (.int (i : Int)))) H') (hd : ∀ σ' H', Pv n.toNat σ' H' → tz DD σ' H') : tSeq (tFor (iRng1 ta) (gName j) tu) tz DD σ H :=
  h F H (Evl.Ex.refl _) b _ fun xs F1 H1 s hx => by
    cases hx with
    | cons hv tl =>
      cases tl
      cases hv
      refine ⟨n, rfl, by omega, by omega, for_range (lo := 0) (n := n.toNat) Pv (h0 F1 H1 s) (fun i σ' H' hi p => ?_) hd⟩
      rw [Int.zero_add]
      exact hs i σ' H' (by omega) p
end Dl
namespace Lw
open PySem PySem.Spec PyProof.Rows L2
theorem dist_ex {xs zs : List Str} (nd : zs.Nodup) (m : ∀ z, z ∈ zs ↔ z ∈ xs) : (distS xs).length = zs.length := by
  have p := List.mergeSort_perm zs fun a b => decide (leS a b)
  have d : DistS xs (zs.mergeSort fun a b => decide (leS a b)) := by
    refine ⟨?_, p.nodup_iff.mpr nd, fun z => (p.mem_iff).trans (m z)⟩
    have z := List.pairwise_mergeSort (le := fun a b => decide (leS a b)) (fun a b c h1 h2 => decide_eq_true (List.le_trans (of_decide_eq_true h1) (of_decide_eq_true h2))) (fun a b => by
      rcases List.le_total a.cps.toList b.cps.toList with h | h
      · rw [Bool.or_eq_true]
        exact .inl (decide_eq_true h)
      · rw [Bool.or_eq_true]
        exact .inr (decide_eq_true h)) zs
    exact z.imp fun h => of_decide_eq_true h
  rw [distS_eq d, p.length_eq]
abbrev sExp : Stmt := topS 34
theorem scExp : FnScope ["_law_value", "_law_kinds", "_law_k", "_law_one"] ["_law_value"] (defScope sExp) := ⟨rfl, rfl, rfl, by decide +kernel, rfl, by decide +kernel, by decide +kernel⟩
abbrev spExp : Sp := Dl.spF (fun ds => ∃ d, ds = [d] ∧ okFlat d) fun ds => errD (ds.getD 0 .none)
theorem lenSet {w : World} {K : PySem.W.Frag} {σ : L2.St} {F : Hp} {te : TE} {zs : List Str} (h : Dl.Ev te σ F (.list (zs.map .str))) (few : zs.length ≤ 1000) :
    Dl.Ev (tCB (SetS.rLenX w) (tCons (tCB (SetS.rSetX K w) (tCons te tNil)) tNil)) σ F (.int ((distS zs).length : Int)) := fun F1 H1 a i Q q => h F1 H1 a i _ fun x F2 H2 s hx => by
  cases hx with
  | @lst l xs _ h1 t1 =>
    have e := strs_of t1
    subst e
    have sb : 1001 < scanBound := by decide +kernel
    refine ⟨l, zs, rfl, .inl (.inl (s.i _ _ h1)), by omega, fun a c ha hc => ⟨a, zs, c, rfl, upd_same, by omega, fun hz => ?_⟩⟩
    obtain ⟨ws, nd, m, len⟩ := hz
    have e : (distS zs).length = c := by rw [dist_ex nd m, len]
    rw [e] at q
    exact q _ F2 _ (s.trans (.hid s.i ha)) (.int _)
theorem word_pos {z : Str} (h : wordD (.str z) = true) : decide (("" : Str).cps.toList < z.cps.toList) = true := by
  obtain ⟨h1, _⟩ := Bool.and_eq_true_iff.mp (show ((decide (1 ≤ (z.length : Int)) && decide ((z.length : Int) ≤ 8)) && z.cps.toList.all small) = true from h)
  have h2 := of_decide_eq_true (Bool.and_eq_true_iff.mp h1).1
  obtain ⟨⟨l⟩⟩ := z
  cases l with
  | nil =>
    have h2' : (1 : Int) ≤ ((0 : Nat) : Int) := h2
    omega
  | cons c l => exact decide_eq_true (List.nil_lt_cons c l)
section
variable {P : Program} {w : World} {K : PySem.W.Frag} {mg : Str → Option Value} {base : Heap}
theorem ok_exp {f fW fT : Addr} {fd fdW fdT : FuncData} (F : Fun K "_law_expected" "_law_expected" sExp f fd) (FW : Fun K "_law_is_word" "_law_is_word" sLWord fW fdW) (bW : Binds K fdW ["_law_value"] []) (gW : mg "_law_is_word" = some (.ref fW)) (GW : FnOk P w K mg base CX0 1 fW fdW ["_law_value"] spWord)
    (FT : Fun K "_law_are_kinds" "_law_are_kinds" sLKinds fT fdT) (bT : Binds K fdT ["_law_value", "_law_least"] []) (gT : mg "_law_are_kinds" = some (.ref fT)) (GT : FnOk P w K mg base CX0 3 fT fdT ["_law_value", "_law_least"] spLKinds)
    (mi : mg "isinstance" = none) (mt : mg "tuple" = none) (mli : mg "list" = none) (ml : mg "len" = none) (mr : mg "range" = none) (mse : mg "set" = none) (mint : mg "int" = none) :
    FnOk P w K mg base CX0 4 f fd ["_law_value"] spExp := by
  refine F.ok scExp (fun vs H Q E h => ?_) (fun cdv A outer s H vs Q E hr h => ?_)
  · obtain ⟨F, ds, _, ht, ⟨d, rfl, _⟩, _⟩ := h
    exact ht.length
  · obtain ⟨F, ds, b, ht, ⟨d, rfl, hd, hdep⟩, q⟩ := h
    have nd := scExp.nd
    have hr1 : Room 1 (A.deeper (envOfC "_law_expected" (defScope sExp) s.heap.objs.size f cdv)) := hr.mono (by decide)
    refine ⟨_, pss_cons (ps_if (PW.pt (pw_or (pt_not (pt_val (pe_callB call_isi (by rfl) mi (by decide +kernel) (pa_cons (pv 0) (pa_cons (pe_bltn (v := .ty "tuple") (by rfl) mt (by decide +kernel) rfl) pa_nil)))))
        (pw_or1 (pt_cmpR (op_neD hr.units) (pe_callB call_len (by rfl) ml PySem.boot_len (pa_cons (pv 0) pa_nil)) pe_int (nomark _))))) (pss_one (ps_ret (pe_tup (pa_cons pe_str pa_nil)))) pss_nil)
      (pss_cons (ps_if (pt_not (pt_val (pe_call GT hr (by rfl) gT FT.kp bT .nil pass0 (pa_cons (pe_ix ix_tup (pv 0) pe_int (fun _ _ => rfl)) (pa_cons pe_int pa_nil))))) (pss_one (ps_ret (pe_tup (pa_cons pe_str pa_nil)))) pss_nil)
      (pss_cons (ps_if (PW.pt (pw_or (pt_not (pt_val (pe_callB call_isi (by rfl) mi (by decide +kernel) (pa_cons (pe_ix ix_tup (pv 0) pe_int (fun _ _ => rfl)) (pa_cons (pe_bltn (v := .ty "list") (by rfl) mli (by decide +kernel) rfl) pa_nil)))))
        (pw_or (pt_cmpR op_lt (pe_callB call_len (by rfl) ml PySem.boot_len (pa_cons (pe_ix ix_tup (pv 0) pe_int (fun _ _ => rfl)) pa_nil)) pe_int (nomark _))
        (pw_or1 (pt_cmpR op_gt (pe_callB call_len (by rfl) ml PySem.boot_len (pa_cons (pe_ix ix_tup (pv 0) pe_int (fun _ _ => rfl)) pa_nil)) pe_int (nomark _)))))) (pss_one (ps_ret (pe_tup (pa_cons pe_str pa_nil)))) pss_nil)
      (pss_cons (ps_set (i := 1) nd rfl (.inl rfl) (pe_callTy call_list_of (by rfl) mli (by decide +kernel) (pa_cons (pe_ix ix_tup (pv 0) pe_int (fun _ _ => rfl)) pa_nil)))
      (pss_cons (ps_for PassesOwn.never rfl (pi_range1 (by rfl) mr (pa_cons (pe_callB call_len (by rfl) ml PySem.boot_len (pa_cons (pe_ix ix_tup (pv 0) pe_int (fun _ _ => rfl)) pa_nil)) pa_nil)) (pg_name (i := 2) nd rfl (.inl rfl))
        (pss_cons (ps_set (i := 3) nd rfl (.inl rfl) (pe_ix ix_list (pe_ix ix_tup (pv 0) pe_int (fun _ _ => rfl)) (pv 2) (fun _ _ => rfl)))
        (pss_cons (ps_if (PW.pt (pw_or (pt_not (pt_val (pe_callB call_isi (by rfl) mi (by decide +kernel) (pa_cons (pv 3) (pa_cons (pe_bltn (v := .ty "tuple") (by rfl) mt (by decide +kernel) rfl) pa_nil)))))
          (pw_or (pt_cmpR (op_neD hr.units) (pe_callB call_len (by rfl) ml PySem.boot_len (pa_cons (pv 3) pa_nil)) pe_int (nomark _))
          (pw_or (pt_not (pt_val (pe_call GW hr1 (by rfl) gW FW.kp bW .nil pass0 (pa_cons (pe_ix ix_tup (pv 3) pe_int (fun _ _ => rfl)) pa_nil))))
          (pw_or1 (pt_not (pt_val (pe_call GW hr1 (by rfl) gW FW.kp bW .nil pass0 (pa_cons (pe_ix ix_tup (pv 3) pe_int (fun _ _ => rfl)) pa_nil)))))))))
          (pss_one (ps_ret (pe_tup (pa_cons pe_str (pa_cons (pv 2) pa_nil))))) pss_nil)
        (pss_cons (ps_if (PW.pt (pw_or (pt_not (pt_val (pe_call GT hr (by rfl) gT FT.kp bT .nil pass0 (pa_cons (pe_ix ix_tup (pv 3) pe_int (fun _ _ => rfl)) (pa_cons pe_int pa_nil)))))
          (pw_or1 (PW.pt (pw_and (pt_cmpR op_gt (pv 2) pe_int (nomark _)) (pw_and1 (pt_cmpR op_le_str (pe_ix ix_tup (pv 3) pe_int (fun _ _ => rfl)) (pe_ix ix_tup (pe_ix ix_list (pe_ix ix_tup (pv 0) pe_int (fun _ _ => rfl)) (pe_op op_sub (pv 2) pe_int) (fun _ _ => rfl)) pe_int (fun _ _ => rfl)) (nomark _))))))))
          (pss_one (ps_ret (pe_tup (pa_cons pe_str (pa_cons (pv 2) pa_nil))))) pss_nil)
        (pss_one (ps_set (i := 1) nd rfl (.inl rfl) (pe_op op_cat (pe_op op_cat (pv 1) (pe_lst (pa_cons (pe_ix ix_tup (pv 3) pe_int (fun _ _ => rfl)) pa_nil))) (pe_callTy call_list_of (by rfl) mli (by decide +kernel) (pa_cons (pe_ix ix_tup (pv 3) pe_int (fun _ _ => rfl)) pa_nil)))))))))
      (pss_one (ps_ret (pe_ix ix_list (pe_lst (pa_cons pe_non (pa_cons (pe_tup (pa_cons pe_str pa_nil)) pa_nil))) (pe_callTy call_int1 (by rfl) mint (by decide +kernel) (pa_cons (pe_cmpR op_gt (pe_callB SetS.cr_lenX (by rfl) ml PySem.boot_len (pa_cons (pe_callTy (SetS.cr_setX rfl) (by rfl) mse (by decide +kernel) (pa_cons (pv 1) pa_nil)) pa_nil)) pe_int (nomark _)) pa_nil)) (fun _ _ => rfl)))))))), ?_⟩
    cases ht with
    | @cons x _ _ _ hx tl =>
    cases tl
    have fin : ∀ e, errD d = e → ∀ y F' H', Dl.Stp F H F' H' → Dl.Tl F' y e → Q y H' := fun e he y F' H' st t => q y F' H' st (by
      show Dl.Tl F' y (errD d)
      rw [he]
      exact t)
    clear q
    cases hz : Dl.isTup d with
    | false =>
      refine Dl.q_when (F := F) (c := true) (Dl.tis (Dl.tor (Dl.tnot (Dl.testB (Dl.isi (Dl.var rfl hx) (Dl.kitTup d)))) (fun z => ?_) (b := false)) (by rw [hz]; rfl)) b (fun _ F1 H1 s1 => ?_) (fun z => Bool.noConfusion z)
      · rw [hz] at z
        cases z
      · refine Dl.s_ret (F := F1) (Dl.tup (Dl.cons Dl.str Dl.nil) (by decide)) s1.i fun y F2 H2 s2 t2 => fin _ ?_ y F2 H2 (s1.trans s2) t2
        cases d <;> first | rfl | cases hz
    | true =>
      cases d <;> try cases hz
      rename_i xs
      refine Dl.q_when (F := F) (c := !(decide ((xs.length : Int) = 2))) (Dl.tis (Dl.tor (Dl.tnot (Dl.testB (Dl.isi (Dl.var rfl hx) (Dl.kitTup _)))) (fun _ => Dl.test (Dl.op (Dl.call (Dl.cons (Dl.var rfl hx) Dl.nil) (Dl.len (n := xs.length) rfl)) Dl.int (Dl.neD (int_shaped _) (int_shaped _))))) (by
          simp only [PyData.eqv, Dl.isTup, Bool.not_true, Bool.false_or]
          exact congrArg Bool.not (by rw [Bool.eq_iff_iff, beq_iff_eq, decide_eq_true_iff]))) b (fun hc F1 H1 s1 => ?_) (fun hc F1 H1 s1 => ?_)
      · have h2 : ¬ xs.length = 2 := by
          intro z
          rw [z] at hc
          cases hc
        refine Dl.s_ret (F := F1) (Dl.tup (Dl.cons Dl.str Dl.nil) (by decide)) s1.i fun y F2 H2 s2 t2 => fin _ ?_ y F2 H2 (s1.trans s2) t2
        match xs, h2 with
        | [], _ => rfl
        | [_], _ => rfl
        | [_, _], h => exact absurd rfl h
        | _ :: _ :: _ :: _, _ => rfl
      · have h2 : xs.length = 2 := by
          rw [Bool.not_eq_false'] at hc
          have z := of_decide_eq_true hc
          omega
        obtain ⟨r, i, rfl⟩ : ∃ r i, xs = [r, i] := by
          match xs, h2 with
          | [a, b], _ => exact ⟨a, b, rfl⟩
        have hf := (Dl.fit_tup hd).2
        have hdp : max (PyData.depth r) (max (PyData.depth i) 0) + 1 ≤ 50 := hdep
        have fr : okFlat r := ⟨Dl.fits_at (i := 0) hf rfl, by omega⟩
        have fi : okFlat i := ⟨Dl.fits_at (i := 1) hf rfl, by omega⟩
        clear hc h2
        have p0 : ∀ {σ : L2.St} {G : Hp}, Evl.Ex F G → σ[0]? = some (some x) → Dl.Ev (tOp (rIxT K) (tVar 0) (tC (.int 0))) σ G r := fun e h => Dl.op (Dl.var h (hx.mono e)) Dl.int (Dl.ixT (i := 0) rfl)
        have p1 : ∀ {σ : L2.St} {G : Hp}, Evl.Ex F G → σ[0]? = some (some x) → Dl.Ev (tOp (rIxT K) (tVar 0) (tC (.int 1))) σ G i := fun e h => Dl.op (Dl.var h (hx.mono e)) Dl.int (Dl.ixT (i := 1) rfl)
        refine Dl.q_when (F := F1) (c := !kindsD 1 4 r) (Dl.tnot (Dl.testB (Dl.callF (Dl.cons (p0 s1.f rfl) (Dl.cons Dl.int Dl.nil)) ⟨_, _, rfl, fr⟩))) s1.i (fun hc F3 H3 s3 => ?_) (fun hc F3 H3 s3 => ?_)
        · rw [Bool.not_eq_true'] at hc
          refine Dl.s_ret (F := F3) (Dl.tup (Dl.cons Dl.str Dl.nil) (by decide)) s3.i fun y F4 H4 s4 t4 => fin _ ?_ y F4 H4 ((s1.trans s3).trans s4) t4
          show (if kindsD 1 4 r = false then PyData.tuple [.str "roots"] else _) = _
          rw [if_pos hc]
        · rw [Bool.not_eq_false'] at hc
          have s13 := s1.trans s3
          have nr : ¬ kindsD 1 4 r = false := by rw [hc]; exact fun z => Bool.noConfusion z
          have e1 : errD (.tuple [r, i]) = if (Dl.isLst i && (decide (1 ≤ ((rowsD i).length : Int)) && decide (((rowsD i).length : Int) ≤ 24))) = false then .tuple [.str "items"]
              else if Dl.isNon (badD (rowsD i)) = false then .tuple [.str "item", badD (rowsD i)] else lastD (rowsD r) (rowsD i) := by
            show (if kindsD 1 4 r = false then PyData.tuple [.str "roots"] else _) = _
            rw [if_neg nr]
          refine Dl.q_when (F := F3) (c := !(Dl.isLst i && (decide (1 ≤ ((rowsD i).length : Int)) && decide (((rowsD i).length : Int) ≤ 24)))) ?_ s3.i (fun hc F4 H4 s4 => ?_) (fun hc4 F4 H4 s4 => ?_)
          · cases hzi : Dl.isLst i with
            | false =>
              refine Dl.tis (Dl.tor (Dl.tnot (Dl.testB (Dl.isi (p1 s13.f rfl) (Dl.kitLst i)))) (fun z => ?_) (b := false)) (by rw [hzi]; rfl)
              rw [hzi] at z
              cases z
            | true =>
              cases i <;> try cases hzi
              rename_i its
              refine Dl.tis (Dl.tor (Dl.tnot (Dl.testB (Dl.isi (p1 s13.f rfl) (Dl.kitLst _)))) (fun _ => Dl.tor (Dl.test (Dl.op (Dl.call (Dl.cons (p1 s13.f rfl) Dl.nil) (Dl.len (n := its.length) rfl)) Dl.int Dl.rI0b)) (fun _ => Dl.test (Dl.op (Dl.call (Dl.cons (p1 s13.f rfl) Dl.nil) (Dl.len (n := its.length) rfl)) Dl.int Dl.rI0b)))) ?_
              show (!true || (decide ((its.length : Int) < 1) || decide ((24 : Int) < (its.length : Int)))) = !(true && (decide (1 ≤ (its.length : Int)) && decide ((its.length : Int) ≤ 24)))
              rw [Bool.not_true, Bool.false_or, Bool.true_and, Bool.not_and, ← decide_not, ← decide_not]
              rw [Bool.eq_iff_iff, Bool.or_eq_true, Bool.or_eq_true, decide_eq_true_iff, decide_eq_true_iff, decide_eq_true_iff, decide_eq_true_iff]
              omega
          · rw [Bool.not_eq_true'] at hc
            refine Dl.s_ret (F := F4) (Dl.tup (Dl.cons Dl.str Dl.nil) (by decide)) s4.i fun y F5 H5 s5 t5 => fin _ ?_ y F5 H5 ((s13.trans s4).trans s5) t5
            rw [e1, if_pos hc]
          · rw [Bool.not_eq_false'] at hc4
            have s14 := s13.trans s4
            rw [if_neg (by rw [hc4]; exact fun z => Bool.noConfusion z)] at e1
            obtain ⟨l1, l2⟩ := Bool.and_eq_true_iff.mp hc4
            cases i <;> try cases l1
            rename_i its
            have l3 : its.length ≤ 24 := by
              have z := of_decide_eq_true (Bool.and_eq_true_iff.mp l2).2
              have z' : (its.length : Int) ≤ 24 := z
              omega
            obtain ⟨rs, rfl, r1, r2⟩ : ∃ rs, r = .tuple rs ∧ rs.all wordD = true ∧ rs.length ≤ 4 := by
              have hk : kindsD 1 4 r = true := by
                cases q : kindsD 1 4 r with
                | true => rfl
                | false => exact absurd q nr
              cases r <;> try cases hk
              rename_i rs
              obtain ⟨k1, k2⟩ := Bool.and_eq_true_iff.mp (show ((decide ((1 : Int) ≤ (rs.length : Int)) && decide ((rs.length : Int) ≤ 4)) && rs.all wordD) = true from hk)
              have k3 := of_decide_eq_true (Bool.and_eq_true_iff.mp k1).2
              exact ⟨rs, rfl, k2, by omega⟩
            refine Dl.q_asg (F := F4) (Dl.call (Dl.cons (p0 s14.f rfl) Dl.nil) Dl.listT) s4.i fun vk F5 H5 s5 t5 => ?_
            have s15 := s14.trans s5
            rw [words_str r1] at t5
            have fits := (Dl.fit_lst fi.1).2
            have dep : PyData.depthAll its + 1 ≤ 50 := fi.2
            have t5' : Dl.Tl F5 vk (.list ((kindsS rs (its.take 0)).map .str)) := by
              unfold kindsS
              rw [List.take_zero, List.flatMap_nil, List.append_nil]
              exact t5
            refine Dl.q_forR (F := F5) (n := (its.length : Int)) (Dl.cons (Dl.call (Dl.cons (p1 s15.f rfl) Dl.nil) (Dl.len (n := its.length) rfl)) Dl.nil) s15.i ⟨by omega, by omega⟩ (fun j σ H' => ∃ (F' : Hp) (vk : V) (y2 y3 : Option V), σ = [some x, some vk, y2, y3] ∧ Dl.Stp F H F' H' ∧ Dl.Tl F' vk (.list ((kindsS rs (its.take j)).map .str)) ∧ ∀ m, m < j → okAt its m = true)
              (fun F6 H6 s6 => ⟨F6, vk, none, none, rfl, s15.trans s6, t5'.mono s6.f, fun m hm => absurd hm (Nat.not_lt_zero m)⟩) (fun j σ H' hj hP => ?_) (fun σ H' hP => ?_)
            · obtain ⟨F6, vk, y2, y3, rfl, s16, tk, hok⟩ := hP
              have hj' : j < its.length := by omega
              obtain ⟨d, hdj⟩ : ∃ d, its[j]? = some d := ⟨_, List.getElem?_eq_getElem hj'⟩
              have gd : its.getD j .none = d := by
                rw [List.getD_eq_getElem?_getD, hdj]
                rfl
              have fd : Dl.fit d = true := Dl.fits_at fits hdj
              have dd := Dl.depth_at hdj
              refine Dl.q_asg (F := F6) (Dl.op (p1 s16.f rfl) (Dl.var rfl (.int (j : Int))) (Dl.ixL hdj)) s16.i fun v1 F7 H7 s7 t7 => ?_
              have s17 := s16.trans s7
              -- the form and the words
              obtain ⟨hd3, eA, yes3, no3⟩ : ∃ hd3 : Bool, (∀ {σ : L2.St} {G : Hp}, Evl.Ex F7 G → σ[3]? = some (some v1) → Dl.EvT (tOr (tNot (tB (tCB (rIsi K) (tCons (tVar 3) (tCons (tC (.ty "tuple")) tNil))))) (tOr (tTest (tOp (rNeD K) (tCB (Dl.rLenA K) (tCons (tVar 3) tNil)) (tC (.int 3))))
                  (tOr (tNot (tB (tCall spWord [] E0 (tCons (tOp (rIxT K) (tVar 3) (tC (.int 0))) tNil)))) (tNot (tB (tCall spWord [] E0 (tCons (tOp (rIxT K) (tVar 3) (tC (.int 1))) tNil))))))) σ G (!hd3)) ∧
                  (hd3 = true → ∃ a b c, d = .tuple [a, b, c] ∧ wordD a = true ∧ wordD b = true) ∧ (hd3 = false → itemD d = false) := by
                cases hzd : Dl.isTup d with
                | false =>
                  refine ⟨false, fun {σ G} e h3 => ?_, fun z => Bool.noConfusion z, fun _ => ?_⟩
                  · refine Dl.tis (Dl.tor (Dl.tnot (Dl.testB (Dl.isi (Dl.var h3 (t7.mono e)) (Dl.kitTup d)))) (fun z => ?_) (b := false)) (by rw [hzd]; rfl)
                    rw [hzd] at z
                    cases z
                  · cases d <;> first | rfl | cases hzd
                | true =>
                  cases d <;> try cases hzd
                  rename_i ws
                  by_cases w3 : ws.length = 3
                  · obtain ⟨a, b, c, rfl⟩ : ∃ a b c, ws = [a, b, c] := by
                      match ws, w3 with
                      | [a, b, c], _ => exact ⟨a, b, c, rfl⟩
                    have ff := (Dl.fit_tup fd).2
                    refine ⟨wordD a && wordD b, fun {σ G} e h3 => ?_, fun z => ⟨a, b, c, rfl, (Bool.and_eq_true_iff.mp z).1, (Bool.and_eq_true_iff.mp z).2⟩, fun z => ?_⟩
                    · refine Dl.tis (Dl.tor (Dl.tnot (Dl.testB (Dl.isi (Dl.var h3 (t7.mono e)) (Dl.kitTup _)))) (fun _ => Dl.tor (Dl.test (Dl.op (Dl.call (Dl.cons (Dl.var h3 (t7.mono e)) Dl.nil) (Dl.len (n := 3) rfl)) Dl.int (Dl.neD (int_shaped _) (int_shaped _)))) (fun _ => Dl.tor (Dl.tnot (Dl.testB (Dl.callF (Dl.cons (Dl.op (Dl.var h3 (t7.mono e)) Dl.int (Dl.ixT (i := 0) rfl)) Dl.nil) ⟨_, rfl, Dl.fits_at (i := 0) ff rfl⟩)))
                        (fun _ => Dl.tnot (Dl.testB (Dl.callF (Dl.cons (Dl.op (Dl.var h3 (t7.mono e)) Dl.int (Dl.ixT (i := 1) rfl)) Dl.nil) ⟨_, rfl, Dl.fits_at (i := 1) ff rfl⟩)))))) ?_
                      show (!true || (_ || (!wordD a || !wordD b))) = !(wordD a && wordD b)
                      rw [show (!PyData.eqv (.int ((3 : Nat) : Int)) (.int 3)) = false by decide +kernel]
                      cases wordD a <;> cases wordD b <;> rfl
                    · show (wordD a && (wordD b && kindsD 0 4 c)) = false
                      rw [← Bool.and_assoc, z]
                      rfl
                  · refine ⟨false, fun {σ G} e h3 => ?_, fun z => Bool.noConfusion z, fun _ => ?_⟩
                    · refine Dl.tis (Dl.tor (Dl.tnot (Dl.testB (Dl.isi (Dl.var h3 (t7.mono e)) (Dl.kitTup _)))) (fun _ => Dl.tor (Dl.test (Dl.op (Dl.call (Dl.cons (Dl.var h3 (t7.mono e)) Dl.nil) (Dl.len (n := ws.length) rfl)) Dl.int (Dl.neD (int_shaped _) (int_shaped _)))) (fun z => ?_) (b := false))) ?_
                      · exfalso
                        rw [Bool.not_eq_false'] at z
                        simp [PyData.eqv] at z
                        omega
                      · have z : PyData.eqv (.int (ws.length : Int)) (.int 3) = false := by
                          simp [PyData.eqv]
                          omega
                        rw [z]
                        rfl
                    · match ws, w3 with
                      | [], _ => rfl
                      | [_], _ => rfl
                      | [_, _], _ => rfl
                      | [_, _, _], h => exact absurd rfl h
                      | _ :: _ :: _ :: _ :: _, _ => rfl
              refine Dl.q_when (F := F7) (c := !hd3) (eA (Evl.Ex.refl _) rfl) s7.i (fun hc F8 H8 s8 => ?_) (fun hc F8 H8 s8 => ?_)
              · rw [Bool.not_eq_true'] at hc
                have hbad : okAt its j = false := by
                  unfold okAt
                  rw [gd, no3 hc]
                  rfl
                refine Dl.s_ret (F := F8) (Dl.tup (Dl.cons Dl.str (Dl.cons (Dl.var rfl (.int (j : Int))) Dl.nil)) (by show 2 ≤ 100000; decide)) s8.i fun y F9 H9 s9 t9 => fin _ ?_ y F9 H9 ((s17.trans s8).trans s9) t9
                rw [e1]
                have eb : badD its = .int (j : Int) := bad_at hj' hok hbad
                show (if Dl.isNon (badD its) = false then PyData.tuple [.str "item", badD its] else _) = _
                rw [eb]
                rfl
              · rw [Bool.not_eq_false'] at hc
                obtain ⟨a, b, c, rfl, wa, wb⟩ := yes3 hc
                have s18 := s17.trans s8
                have t8 := t7.mono s8.f
                have ff := (Dl.fit_tup fd).2
                have fc : okFlat c := ⟨Dl.fits_at (i := 2) ff rfl, by
                  have z : max (PyData.depth a) (max (PyData.depth b) (max (PyData.depth c) 0)) + 1 ≤ PyData.depthAll its := dd
                  omega⟩
                have ea := word_str wa
                have nmE : nameD (.tuple [a, b, c]) = strD a := by
                  rw [ea]
                  rfl
                have iE : itemD (.tuple [a, b, c]) = kindsD 0 4 c := by
                  show (wordD a && (wordD b && kindsD 0 4 c)) = _
                  rw [wa, wb]
                  rfl
                have okE : okAt its j = (kindsD 0 4 c && decide ((prevD its j).cps.toList < (strD a).cps.toList)) := by
                  unfold okAt
                  rw [gd, iE, nmE]
                refine Dl.q_when (F := F8) (c := !okAt its j) (Dl.tis (Dl.tor (Dl.tnot (Dl.testB (Dl.callF (Dl.cons (Dl.op (Dl.var rfl t8) Dl.int (Dl.ixT (i := 2) rfl)) (Dl.cons Dl.int Dl.nil)) ⟨_, _, rfl, fc⟩))) (fun _ => Dl.tand (Dl.test (Dl.op (Dl.var rfl (.int (j : Int))) Dl.int Dl.rI0b)) (fun hp => ?_) (b := !decide ((prevD its j).cps.toList < (strD a).cps.toList)))) ?_) s8.i (fun hc2 F9 H9 s9 => ?_) (fun hc2 F9 H9 s9 => ?_)
                · have j0 : (0 : Int) < (j : Int) := of_decide_eq_true hp
                  obtain ⟨m, rfl⟩ : ∃ m, j = m + 1 := ⟨j - 1, by omega⟩
                  obtain ⟨pd, hpd⟩ : ∃ pd, its[m]? = some pd := ⟨_, List.getElem?_eq_getElem (by omega)⟩
                  have gp : its.getD m .none = pd := by
                    rw [List.getD_eq_getElem?_getD, hpd]
                    rfl
                  have ip : itemD pd = true := by
                    have z := hok m (by omega)
                    unfold okAt at z
                    rw [gp] at z
                    exact (Bool.and_eq_true_iff.mp z).1
                  have ep : prevD its (m + 1) = nameD pd := by
                    show nameD (its.getD m .none) = _
                    rw [gp]
                  rw [ep]
                  obtain ⟨es, he⟩ := item_name ip
                  generalize nameD pd = z at he ⊢
                  subst he
                  rw [ea] at t8
                  exact Dl.test (Dl.op (Dl.op (Dl.var rfl t8) Dl.int (Dl.ixT (i := 0) rfl)) (Dl.op (Dl.op (p1 s18.f rfl) (Dl.is_ (Dl.op (Dl.var rfl (.int ((m + 1 : Nat) : Int))) Dl.int Dl.rI0i) (by
                    rw [show ((m + 1 : Nat) : Int) - 1 = (m : Int) by omega])) (Dl.ixL hpd)) Dl.int (Dl.ixT (i := 0) rfl)) Dl.leStr)
                · rw [okE]
                  show (!(kindsD 0 4 c) || (decide ((0 : Int) < (j : Int)) && _)) = _
                  cases j with
                  | zero =>
                    have z : decide ((prevD its 0).cps.toList < (strD a).cps.toList) = true := word_pos (by rw [← ea]; exact wa)
                    rw [z]
                    cases kindsD 0 4 c <;> rfl
                  | succ m =>
                    rw [decide_eq_true (by omega : (0 : Int) < ((m + 1 : Nat) : Int))]
                    cases kindsD 0 4 c <;> simp
                · rw [Bool.not_eq_true'] at hc2
                  refine Dl.s_ret (F := F9) (Dl.tup (Dl.cons Dl.str (Dl.cons (Dl.var rfl (.int (j : Int))) Dl.nil)) (by show 2 ≤ 100000; decide)) s9.i fun y F10 H10 s10 t10 => fin _ ?_ y F10 H10 ((s18.trans s9).trans s10) t10
                  rw [e1]
                  have eb : badD its = .int (j : Int) := bad_at hj' hok hc2
                  show (if Dl.isNon (badD its) = false then PyData.tuple [.str "item", badD its] else _) = _
                  rw [eb]
                  rfl
                · rw [Bool.not_eq_false'] at hc2
                  have kc : kindsD 0 4 c = true := by
                    rw [okE] at hc2
                    exact (Bool.and_eq_true_iff.mp hc2).1
                  have it : itemD (.tuple [a, b, c]) = true := iE.trans kc
                  obtain ⟨zs, rfl, hzs, z4⟩ : ∃ zs, c = .tuple zs ∧ zs = (zs.map strD).map .str ∧ zs.length ≤ 4 := by
                    cases c <;> try cases kc
                    rename_i zs
                    obtain ⟨k1, k2⟩ := Bool.and_eq_true_iff.mp (show ((decide ((0 : Int) ≤ (zs.length : Int)) && decide ((zs.length : Int) ≤ 4)) && zs.all wordD) = true from kc)
                    have k3 := of_decide_eq_true (Bool.and_eq_true_iff.mp k1).2
                    exact ⟨zs, rfl, words_str k2, by omega⟩
                  have ek : kindsS rs (its.take (j + 1)) = kindsS rs (its.take j) ++ [strD b] ++ zs.map strD := by
                    unfold kindsS
                    rw [List.take_add_one, hdj, List.flatMap_append, ← List.append_assoc, List.append_assoc _ [strD b]]
                    simp [kindD, slotsD]
                  have tl : (kindsS rs (its.take j)).length ≤ 124 := by
                    have ai : (its.take j).all itemD = true := List.all_eq_true.mpr fun y hy => by
                      obtain ⟨m, hm, rfl⟩ := List.mem_iff_getElem.mp hy
                      have hm2 : m < j := by rw [List.length_take] at hm; omega
                      have z := hok m hm2
                      unfold okAt at z
                      rw [List.getD_eq_getElem?_getD, List.getElem?_eq_getElem (by omega)] at z
                      rw [List.getElem_take]
                      exact (Bool.and_eq_true_iff.mp z).1
                    have z1 := flat_len ai
                    have z2 : (its.take j).length ≤ 24 := by rw [List.length_take]; omega
                    unfold kindsS
                    rw [List.length_append, List.length_map]
                    omega
                  have t9 := t8.mono s9.f
                  have tk9 := ((tk.mono s7.f).mono s8.f).mono s9.f
                  refine Dl.s_asg (F := F9) (Dl.op (Dl.op (Dl.var rfl tk9) (Dl.lst (Dl.cons (Dl.op (Dl.var rfl t9) Dl.int (Dl.ixT (i := 1) rfl)) Dl.nil) (by show 1 ≤ 100000; decide)) (Dl.cat (by rw [List.length_map]; show _ + 1 ≤ 100000; omega))) (Dl.call (Dl.cons (Dl.op (Dl.var rfl t9) Dl.int (Dl.ixT (i := 2) rfl)) Dl.nil) Dl.listT) (Dl.cat (by rw [List.length_append, List.length_map]; show _ + 1 + _ ≤ 100000; omega))) s9.i fun y F10 H10 s10 t10 => ?_
                  refine ⟨F10, y, _, _, rfl, (s18.trans s9).trans s10, ?_, fun m hm => ?_⟩
                  · rw [ek, List.map_append, List.map_append, ← hzs]
                    have eb := word_str wb
                    show Dl.Tl F10 y (.list ((kindsS rs (its.take j)).map .str ++ [.str (strD b)] ++ zs))
                    rw [← eb]
                    exact t10
                  · rcases Nat.lt_succ_iff_lt_or_eq.mp hm with h | h
                    · exact hok m h
                    · rw [h]
                      exact hc2
            · obtain ⟨F6, vk, y2, y3, rfl, s16, tk, hok⟩ := hP
              have en : ((its.length : Int)).toNat = its.length := by omega
              rw [en, List.take_length] at tk
              rw [en] at hok
              have eb : badD its = .none := bad_none hok
              have ai : its.all itemD = true := bad_all (by rw [eb]; rfl)
              have few : (kindsS rs its).length ≤ 1000 := by
                have z1 := flat_len ai
                unfold kindsS
                rw [List.length_append, List.length_map]
                omega
              have e2 : errD (.tuple [.tuple rs, .list its]) = lastD rs its := by
                rw [e1]
                show (if Dl.isNon (badD its) = false then _ else lastD rs its) = _
                rw [eb]
                rfl
              refine Dl.s_ret (F := F6) (d := lastD rs its) (Dl.op (Dl.lst (Dl.cons Dl.non (Dl.cons (Dl.tup (Dl.cons Dl.str Dl.nil) (by decide)) Dl.nil)) (by decide)) (Dl.call (Dl.cons (Dl.op (lenSet (Dl.var rfl tk) few) Dl.int Dl.rI0b) Dl.nil) Dl.intB) ?_) s16.i fun y F7 H7 s7 t7 => fin _ e2 y F7 H7 (s16.trans s7) t7
              unfold lastD
              by_cases h6 : 6 < (distS (kindsS rs its)).length
              · rw [if_pos h6, decide_eq_true (by omega : (6 : Int) < ((distS (kindsS rs its)).length : Int))]
                exact Dl.ixL (i := 1) rfl
              · rw [if_neg h6, decide_eq_false (by omega : ¬ (6 : Int) < ((distS (kindsS rs its)).length : Int))]
                exact Dl.ixL (i := 0) rfl
end
end Lw
set_option Elab.async false
set_option linter.all false
set_option maxRecDepth 100000
set_option maxHeartbeats 4000000
set_option exponentiation.threshold 10000
/-! what _law_inventory is told by: its parts apart from the run -/
namespace Lw
open PySem PySem.Spec PyProof.Rows L2
structure Itm where
  name : Str
  kind : Str
  slots : List Str
def encI (b : Itm) : PyData := .tuple [.str b.name, .str b.kind, .tuple (b.slots.map .str)]
abbrev kinds6 : List Str := ["k", "l", "kin", "root", "twelves", "zz"]
abbrev names16 : List Str := ["a", "aa", "ab", "b", "bar", "c", "cap", "d", "dot", "e", "segments", "f", "g", "h", "i", "jar"]
abbrev names8 : List Str := ["k", "lo", "m", "n", "oz", "p", "swap", "zz"]
structure InvOk (roots : List Str) (its : List Itm) : Prop where
  r1 : 1 ≤ roots.length
  r4 : roots.length ≤ 4
  rk : ∀ r ∈ roots, r ∈ kinds6
  n1 : 1 ≤ its.length
  n24 : its.length ≤ 24
  nm : ∀ i ∈ its, i.name ∈ names16 ++ names8
  kd : ∀ i ∈ its, i.kind ∈ kinds6
  s4 : ∀ i ∈ its, i.slots.length ≤ 4
  sk : ∀ i ∈ its, ∀ z ∈ i.slots, z ∈ kinds6
theorem Reach.plcs {ks : List Str} {limit : Nat} {roots : List Str} {st : ISt} (h : Reach ks limit roots st) : (∀ p ∈ st.os, ∀ m, p.1 = some m → m < st.bs.length) ∧ ∀ b ∈ st.bs, ∀ m, b.plc.1 = some m → m < st.bs.length := by
  induction h with
  | start =>
    refine ⟨fun p hp m e => ?_, fun b hb => (by cases hb)⟩
    obtain ⟨j, _, rfl⟩ := List.mem_map.mp hp
    cases e
  | step r s ih =>
    obtain ⟨i1, i2⟩ := ih
    cases s with
    | mk i pl kd sl h1 h2 h3 h4 h5 =>
      refine ⟨fun p hp m e => ?_, fun b hb m e => ?_⟩
      · show m < (_ ++ [_]).length
        rw [List.length_append, List.length_singleton]
        rcases List.mem_append.mp hp with z | z
        · have y := i1 p (List.mem_of_mem_eraseIdx z) m e
          omega
        · obtain ⟨j, _, rfl⟩ := List.mem_map.mp z
          cases e
          omega
      · show m < (_ ++ [_]).length
        rw [List.length_append, List.length_singleton]
        rcases List.mem_append.mp hb with z | z
        · have y := i2 b z m e
          omega
        · rw [List.mem_singleton.mp z] at e
          have y := i1 pl (List.mem_of_getElem? h1) m e
          omega
theorem Reach.grown {ks : List Str} {limit : Nat} {roots : List Str} {st : ISt} (h : Reach ks limit roots st) : 0 < st.bs.length ∨ st.os.length = roots.length := by
  induction h with
  | start => exact .inr (by simp)
  | step r s ih =>
    cases s with
    | mk i pl kd sl h1 h2 h3 h4 h5 =>
      left
      show 0 < (_ ++ [_]).length
      rw [List.length_append, List.length_singleton]
      omega
theorem alike_strs : ∀ a b : List Str, PySem.W.alikeAll (a.map .str) (b.map .str) = true
  | [], _ => by simp [PySem.W.alikeAll]
  | _ :: _, [] => by simp [PySem.W.alikeAll]
  | x :: a, y :: b => by
    have z := alike_strs a b
    simp only [List.map_cons, PySem.W.alikeAll, PySem.W.alike, z, Bool.and_self]
theorem alike_encI (a b : Itm) : PySem.W.alike (encI a) (encI b) = true := by
  simp only [encI, PySem.W.alike, PySem.W.alikeAll, alike_strs, Bool.and_self]
theorem alike_its {ds : List PyData} {its : List Itm} (e : ds = its.map encI) : PySem.W.AllAlike ds ∧ PySem.W.Sortable ds := by
  subst e
  refine ⟨fun d hd d' hd' => ?_, .inl fun d hd => ?_⟩
  · obtain ⟨a, _, rfl⟩ := List.mem_map.mp hd
    obtain ⟨b, _, rfl⟩ := List.mem_map.mp hd'
    exact alike_encI a b
  · obtain ⟨a, _, rfl⟩ := List.mem_map.mp hd
    exact ⟨_, _, rfl⟩
theorem depth_encI (a : Itm) : (encI a).depth ≤ 3 := by
  have z := depth_strs a.slots
  simp only [encI, PyData.depth, PyData.depthAll]
  omega
theorem its_ex {its : List Itm} : ∀ {ds : List PyData}, (∀ d ∈ ds, d ∈ its.map encI) → ∃ js : List Itm, ds = js.map encI ∧ ∀ j ∈ js, j ∈ its
  | [], _ => ⟨[], rfl, fun z h => (by cases h)⟩
  | d :: ds, h => by
    obtain ⟨a, ha, e⟩ := List.mem_map.mp (h d List.mem_cons_self)
    obtain ⟨js, rfl, hs⟩ := its_ex fun e he => h e (List.mem_cons_of_mem _ he)
    refine ⟨a :: js, by rw [List.map_cons, e], fun y hy => ?_⟩
    rcases List.mem_cons.mp hy with q | q
    · rw [q]
      exact ha
    · exact hs y q
def itmAt (ns : List Str) (bs : List Blt) (i : Nat) : Itm := match bs[i]? with
  | some b => ⟨ns.getD i "", b.kind, b.slots⟩
  | none => ⟨"", "", []⟩
theorem itmAt_of {ns : List Str} {bs : List Blt} {i : Nat} {b : Blt} (h : bs[i]? = some b) : itmAt ns bs i = ⟨ns.getD i "", b.kind, b.slots⟩ := by
  unfold itmAt
  rw [h]
theorem strs_at {ns : List Str} {i : Nat} (h : i < ns.length) : (ns.map PyData.str)[i]? = some (.str (ns.getD i "")) := by
  rw [List.getElem?_map, List.getD_eq_getElem?_getD, List.getElem?_eq_getElem h]
  rfl
theorem getD_mem {ns : List Str} {i : Nat} (h : i < ns.length) : ns.getD i "" ∈ ns := by
  rw [List.getD_eq_getElem?_getD, List.getElem?_eq_getElem h]
  exact List.getElem_mem h
/-- keys and values of the dict of places -/
def okKvs (kvs : List (List Key × V)) : Prop := ∀ kv ∈ kvs, (∃ (s : Str) (i : Int), kv.1 = [.inr s, .inl i]) ∧ ∃ z : Str, kv.2 = .str z
theorem okKvs_put {kvs : List (List Key × V)} {k : List Key} {v : V} (h : okKvs kvs) (hk : ∃ (s : Str) (i : Int), k = [.inr s, .inl i]) (hv : ∃ z : Str, v = .str z) : okKvs (putK kvs k v) := by
  intro kv hkv
  unfold putK at hkv
  split at hkv
  · obtain ⟨x, hx, rfl⟩ := List.mem_map.mp hkv
    by_cases e : x.1 = k
    · rw [if_pos e]
      exact ⟨(h x hx).1, hv⟩
    · rw [if_neg e]
      exact h x hx
  · rcases List.mem_append.mp hkv with z | z
    · exact h kv z
    · rw [List.mem_singleton.mp z]
      exact ⟨hk, hv⟩
theorem kvs_alike {kvs : List (List Key × V)} (h : okKvs kvs) : PySem.W.AllAlike (kvs.map fun p => SortD.rowD p.1) ∧ PySem.W.Sortable (kvs.map fun p => SortD.rowD p.1) := by
  refine ⟨fun d hd d' hd' => ?_, .inl fun d hd => ?_⟩
  · obtain ⟨a, ha, rfl⟩ := List.mem_map.mp hd
    obtain ⟨b, hb, rfl⟩ := List.mem_map.mp hd'
    obtain ⟨⟨s, i, e⟩, _⟩ := h a ha
    obtain ⟨⟨s', i', e'⟩, _⟩ := h b hb
    show PySem.W.alike (SortD.rowD a.1) (SortD.rowD b.1) = true
    rw [e, e']
    simp [SortD.rowD, SortD.keyD, PySem.W.alike, PySem.W.alikeAll]
  · obtain ⟨a, ha, rfl⟩ := List.mem_map.mp hd
    obtain ⟨⟨s, i, e⟩, _⟩ := h a ha
    exact ⟨.str s, [.int i], by show SortD.rowD a.1 = _; rw [e]; rfl⟩
theorem valV_mem {kvs : List (List Key × V)} {kv : List Key × V} (h : kv ∈ kvs) : ∃ kv' ∈ kvs, valV kvs kv.1 = some kv'.2 := by
  have z : (kvs.find? fun x => decide (x.1 = kv.1)).isSome = true := List.find?_isSome.mpr ⟨kv, h, decide_eq_true rfl⟩
  obtain ⟨y, hy⟩ := Option.isSome_iff_exists.mp z
  refine ⟨y, List.mem_of_find?_eq_some hy, ?_⟩
  unfold valV
  rw [hy]
  rfl
theorem each_ex {α : Type} {R : α → Str → Prop} : ∀ {xs : List α}, (∀ x ∈ xs, ∃ z, R x z) → ∃ zs : List Str, zs.length = xs.length ∧ ∀ i x, xs[i]? = some x → R x (zs.getD i "")
  | [], _ => ⟨[], rfl, fun i x h => by simp at h⟩
  | x :: xs, h => by
    obtain ⟨z, hz⟩ := h x List.mem_cons_self
    obtain ⟨zs, hl, hs⟩ := each_ex fun y hy => h y (List.mem_cons_of_mem _ hy)
    refine ⟨z :: zs, by simp [hl], fun i y hy => ?_⟩
    cases i with
    | zero =>
      have e := Option.some.inj (show some x = some y from hy)
      subst e
      exact hz
    | succ i =>
      have hy' : xs[i]? = some y := by simpa using hy
      simpa using hs i y hy'
theorem keys_mem {H : Hp} : ∀ {kvs : List (List Key × V)} {bs : List Addr}, IsKeys H kvs bs → ∀ b ∈ bs, ∃ kv ∈ kvs, H b = some (.tup (kv.1.map kV))
  | _, _, .nil, b, h => by cases h
  | _, _, .cons h t, b, hb => by
    rcases List.mem_cons.mp hb with e | e
    · rw [e]
      exact ⟨_, List.mem_cons_self, h⟩
    · obtain ⟨kv, h1, h2⟩ := keys_mem t b e
      exact ⟨kv, List.mem_cons_of_mem _ h1, h2⟩
end Lw
namespace Dl
open PySem PySem.Spec PyProof.Rows L2
theorem Stp.mut {F0 H0 F H : Hp} {p : Addr} {o : HO} (s : Stp F0 H0 F H) (h0 : H0 p = none) (fp : F p = none) : Stp F0 H0 F (upd H p o) :=
  ⟨s.f, fun b u hb => by
    rw [upd_ne (fun z => by rw [z, h0] at hb; cases hb)]
    exact s.h b u hb, fun b u hb => by
    rw [upd_ne (fun z => by rw [z, fp] at hb; cases hb)]
    exact s.i b u hb, s.n⟩
/-- one's own object is shared from now on -/
theorem Stp.own {F0 H0 F H : Hp} {p : Addr} {o : HO} (s : Stp F0 H0 F H) (h0 : H0 p = none) (fp : F p = none) (hp : H p = some o) : Stp F0 H0 (upd F p o) H :=
  ⟨s.f.trans (Evl.Ex.new fp), s.h, fun b u hb => by
    by_cases z : b = p
    · rw [z, upd_same] at hb
      cases hb
      rw [z]
      exact hp
    · rw [upd_ne z] at hb
      exact s.i b u hb, fun b h1 h2 => by
    rw [upd_ne (fun z => h2 (by rw [z]; exact h0))]
    exact s.n b h1 h2⟩
/-- a turn of a comprehension without a test, where the heap at its start is known -/
theorem cw_turnH {te : TE} {σ2 : L2.St} {F0 H0 H' : Hp} {g : Nat → D} {p : Addr} {i : Nat} (h : CW F0 H0 (fun _ => true) g p i H') (hi : i < 50000) (he : ∀ F H1, Ex F0 F → Ex F H1 → Ex H0 H1 → ∀ Q : VK, (∀ y F4 H4, Stp F H1 F4 H4 → Tl F4 y (g i) → Q y H4) → te σ2 H1 Q) :
    te σ2 H' fun y H4 => ∃ acc, H4 p = some (.lst acc) ∧ acc.length < sizeLine ∧ CW F0 H0 (fun _ => true) g p (i + 1) (upd H4 p (.lst (acc ++ [y]))) := by
  obtain ⟨hp, F, xs, e0, e1, e2, n0, fp, h1, ht1⟩ := h
  have ne : H' p ≠ none := by
    rw [h1]
    exact fun z => nomatch z
  refine he F H' e0 e1 e2 _ fun y F4 H4 s4 hy => ⟨xs, s4.h _ _ h1, Evl.sz_lt (by rw [ht1.length]; have := kept_len i (fun _ => true) g; omega), hp, F4, _, e0.trans s4.f, fun a o ha => ?_, Evl.Ex.mut (e2.trans s4.h) hp, n0.trans e2 s4.n, s4.n _ fp ne, upd_same, ?_⟩
  · have na : a ≠ p := fun z => by
      rw [z, s4.n _ fp ne] at ha
      cases ha
    rw [upd_ne na]
    exact s4.i _ _ ha
  · rw [kept_yes rfl]
    exact (ht1.mono s4.f).append (.cons hy .nil)
end Dl
namespace Gn
open PySem PySem.Spec PyProof.Rows L2 Lw
/-- a draw below a number that is written -/
theorem drawM {K : PySem.W.Frag} {S : Addr × Addr} {te : TE} {σ : L2.St} {F : Hp} {i M : Nat} (hs : Holds S σ i) (h : EvG S te σ F 0 (· = .int (M : Int))) (h0 : 0 < M) (h1 : M < 1000) : EvG S (tCall (spDraw K) [] E0 (tCons (tVar i) (tCons te tNil))) σ F 1 (fun d => ∃ j : Nat, d = .int (j : Int) ∧ j < M) :=
  (draw hs (P := (· = .int (M : Int))) (fun L e => by cases e; exact ⟨by omega, by omega⟩) h (fun d e => ⟨_, e⟩)).weak (Nat.le_refl _) (fun d e => by
    obtain ⟨L, k, e1, rfl, k0, kL⟩ := e
    cases e1
    exact ⟨k.toNat, by rw [Int.toNat_of_nonneg k0], by omega⟩)
end Gn
namespace Gn
open PySem PySem.Spec PyProof.Rows L2 Lw
section
variable {K : PySem.W.Frag} {S : Addr × Addr} {σ : L2.St} {F H : Hp} {te : TE} {tl th : TO} {n t : Nat} {P P2 : D → Prop} {lo hi : Option Int} {DD : Ends} {tz : TS}
theorem slL (h : EvG S te σ F n P) (h1 : Dl.PartIs tl σ F lo) (h2 : Dl.PartIs th σ F hi) (hP : ∀ d, P d → ∃ ds, d = .list ds ∧ P2 (.list (Dl.cutD ds lo hi))) : EvG S (tSl (rSlL K) te tl th) σ F n P2 := fun F1 H1 t a at1 lim Q q =>
  h F1 H1 t a at1 lim _ fun x d F2 H2 t2 s i2 l2 tx p => by
    obtain ⟨ds, rfl, p2⟩ := hP d p
    refine h1 F2 H2 (a.trans s.f) i2.i _ fun F3 H3 s3 => h2 F3 H3 ((a.trans s.f).trans s3.f) s3.i _ fun F4 H4 s4 => ?_
    cases tx with
    | @lst l xs _ e tt =>
      refine ⟨l, xs, rfl, .inl (.inl (s4.i _ _ (s4.f _ _ (s3.f _ _ e)))), fun p hp => ?_⟩
      have st : Dl.Stp F4 H4 _ _ := .new (o := .lst (cutV xs lo hi)) s4.i hp
      exact q _ _ _ _ t2 (((s.trans (.of s3)).trans (.of s4)).trans (.of st)) (((i2.step s3).step s4).step st) l2 (.lst upd_same ((((tt.cut lo hi).mono s3.f).mono s4.f).mono st.f)) p2
theorem yes_in {R : VK} {G : Hp → Prop} (h : te σ H R) : tYes σ H fun b H3 => if b = true then te σ H3 R else G H3 := h
theorem ret_tup {te : TE} {ta : TA} (h : te σ H fun x H1 => ta σ H1 fun xs H2 => (x :: xs).length ≤ sizeLine ∧ ∀ p, H2 p = none → DD.rt (.ref p) (upd H2 p (.tup (x :: xs)))) : tRet (tTup (tCons te ta)) DD σ H := h
theorem q_tup {m : Nat} {gs : TGs} (h : EvG S te σ F n P) (hP : ∀ d, P d → ∃ ds, d = .tuple ds ∧ ds.length = m) (a : At S F H t) (lim : t + n < 2 ^ 40) (k : ∀ xs ds F1 H1 t1, Stg S F H F1 H1 → At S F1 H1 t1 → t1 ≤ t + n → TlAll F1 xs ds → P (.tuple ds) → gs xs σ H1 (tz DD)) :
    tSeq (tAsg te (gTup K m gs)) tz DD σ H := h F H t (Evl.Ex.refl _) a lim _ fun x d F1 H1 t1 s a1 l1 tx p => by
  obtain ⟨ds, rfl, len⟩ := hP d p
  cases tx with
  | @tup b xs _ h1 tt => exact ⟨b, xs, rfl, .inl (.inl (a1.i _ _ h1)), by rw [tt.length]; exact len, k xs ds F1 H1 t1 s a1 l1 tt p⟩
end
end Gn
namespace Lw
open PySem PySem.Spec PyProof.Rows L2
theorem perm_strs {fs : List PyData} {l : List Str} (h : fs.Perm (l.map .str)) : ∃ zs : List Str, fs = zs.map .str ∧ zs.length = l.length ∧ ∀ z ∈ zs, z ∈ l := by
  obtain ⟨zs, rfl, hz⟩ := strs_ex (ks := l) (es := fs) fun e he => by
    obtain ⟨z, hz, e2⟩ := List.mem_map.mp (h.mem_iff.mp he)
    exact ⟨z, hz, e2.symm⟩
  refine ⟨zs, rfl, ?_, hz⟩
  have z := h.length_eq
  rw [List.length_map, List.length_map] at z
  exact z
theorem lay6 : ∀ k ∈ kinds6, PyData.canLay0 (.str k) = true := by decide +kernel
theorem str_mem {ks js : List Str} (e : ks.map PyData.str = js.map PyData.str) {r : Str} (h : r ∈ ks) : r ∈ js := by
  have z : PyData.str r ∈ js.map PyData.str := e ▸ List.mem_map.mpr ⟨r, h, rfl⟩
  obtain ⟨y, hy, e2⟩ := List.mem_map.mp z
  cases e2
  exact hy
end Lw
set_option Elab.async false
set_option linter.all false
set_option maxRecDepth 100000
set_option maxHeartbeats 4000000
/-! for i, x in enumerate(a tuple) -/
namespace EnumT
open PySem PySem.Spec PyProof.Rows
set_option maxHeartbeats 4000000 in
theorem meets_enum1 {v : Value} {ob : Obj} {St : Heap → Prop} (B : Begins v ob St) :
    Meets (Builtin.«enumerate.__new__» ⟨[.type "enumerate", v], []⟩) (fun _ R s => St s.heap ∧ R (.ok (.ret (.ref (s.heap.push ob).objs.size)))
      { s with heap := (s.heap.push ob).push { cls := .type "enumerate", data := .fields #[.none, .bool false, .ref s.heap.objs.size, rawInt 0, .none, .none] } }) :=
  .of_wp fun P W A R s hyp => by
    obtain ⟨hp, g, d, tk, os⟩ := s
    obtain ⟨st, hyp⟩ := hyp
    have isSub := sub_enumerate
    have begun : ∀ {A2 : Around} {E : Value → Shared → Prop} {Q : Value → Shared → Prop}, Q (.ref hp.objs.size) ⟨hp.push ob, g, d, tk, os⟩ → wpAny (model P W) A2 (pyIter v) Q E ⟨hp, g, d, tk, os⟩ := fun q => B.iter P W _ _ ⟨hp, g, d, tk, os⟩ _ st q
    wp_walk using begun
    refine wpAny_stack_any fun frames => wpAny_pure ?_
    split
    · rename_i cls _ _ _ _ _
      cases (cls == Value.type "enumerate") <;> (wp_walk using begun; exact ⟨_, rfl, hyp⟩)
    · wp_walk using begun
      exact ⟨_, rfl, hyp⟩
theorem enum1 {P : Program} {W : World} {A : Around} {E : Value → Shared → Prop} {s : Shared} {v : Value} {ob : Obj} {St : Heap → Prop} {Q : Value → Shared → Prop} (B : Begins v ob St) (st : St s.heap)
    (k : ∀ g, IsEnum g (s.heap.objs.size + 1) s.heap.objs.size 0 .none → g.get? s.heap.objs.size = some ob → (∀ b u, s.heap.get? b = some u → g.get? b = some u) → Q (.ref (s.heap.objs.size + 1)) { s with heap := g }) : wpAny (model P W) A (call (.type "enumerate") [v]) Q E s := by
  refine callType_new F.called_enumerate (by decide) (F.typeCall_enumerate_1 _) (F.newCall_enumerate_1 _) (fun obj => F.args_object_init_2 obj _) F.entry_enumerate_new (meets_enum1 B) ⟨st, ?_⟩
  have sz : (s.heap.push ob).objs.size = s.heap.objs.size + 1 := Heap.size_push ..
  show _ ∧ _
  rw [sz]
  have isE : IsEnum ((s.heap.push ob).push { cls := .type "enumerate", data := .fields #[.none, .bool false, .ref s.heap.objs.size, rawInt 0, .none, .none] }) (s.heap.objs.size + 1) s.heap.objs.size 0 .none := by
    have y := Heap.get?_push_size (s.heap.push ob) (o := { cls := .type "enumerate", data := .fields #[.none, .bool false, .ref s.heap.objs.size, rawInt 0, .none, .none] }) rfl
    rw [sz] at y
    exact y
  exact ⟨⟨_, isE, rfl⟩, k _ isE (Heap.get?_push_of_some _ (Heap.get?_push_size _ B.free)) fun b u e => Heap.get?_push_of_some _ (Heap.get?_push_of_some _ e)⟩
open L2
/-- the tuple at a as it stands at each turn, each item in a new pair -/
def Itet (K : PySem.W.Frag) (a : Addr) : It where
  go := fun i H => ∃ (xs : List V) (x : V), SqT K H a xs ∧ xs[i]? = some x
  yld := fun i H v H' => ∃ q x, v = .ref q ∧ H q = none ∧ H' = upd H q (.tup [.int (i : Nat), x]) ∧ ∀ xs, SqT K H a xs → xs[i]? = some x
  stop := fun i H => ∃ xs : List V, SqT K H a xs ∧ xs.length = i
theorem turn_enumT {P : Program} {w : World} {K : PySem.W.Frag} {elts : List Expr} {kk : Nat} {tpos : Pos} (a e it : Addr) (ai : a ≠ it) (ae : a ≠ e) :
    Turn P w K (.Tuple elts kk tpos) (Itet K a) [e, it] e (fun i h => (∃ old, IsEnum h e it ((i : Nat) : Int) old) ∧ h.IsTupleIter it a i ∧ e ≠ it) where
  mem := by simp
  obj := fun i h st b hb => by
    obtain ⟨⟨old, isE⟩, ⟨o, oi, _, od⟩, _⟩ := st
    rcases (show b = e ∨ b = it by simpa using hb) with z | z
    · rw [z]
      exact ⟨_, isE, fun v q => nomatch q⟩
    · exact ⟨o, z ▸ oi, fun v q => by rw [od] at q; cases q⟩
  keep := fun i g g' st k => by
    obtain ⟨⟨old, isE⟩, isI, ne⟩ := st
    exact ⟨⟨old, k e (by simp) _ isE⟩, isI.at fun o q => k it (by simp) o q, ne⟩
  item := by
    intro X hP hw hK hc i pins s σ H E I hf st more
    subst hP hw hK
    obtain ⟨⟨old, isE⟩, isI, ne⟩ := st
    obtain ⟨xs, x, tq, hx⟩ := more
    obtain ⟨its, rv, tup, _⟩ := I.tuple tq
    obtain ⟨u, hu, ru⟩ := rv.get hx
    have eS : e < s.heap.objs.size := Heap.lt_size isE
    have iS : it < s.heap.objs.size := by
      obtain ⟨_, q, _⟩ := isI
      exact Heap.lt_size q
    have D := Draws.tuple (prog := X.prog) (w := X.w) (A := X.A.in1) (show X.A.in1.handled = none from I.ok.hd hc) it a ai its.toArray
    have lt : i < its.toArray.size := by
      have z := (List.getElem?_eq_some_iff.mp hu).1
      simpa using z
    refine wpAny_pyNext_enum_itemC (c := (i : Int)) D isE ⟨isI, tup⟩ lt ne (by simp [ne, Ne.symm ae]) fun y g tk py out st2 newT _ keep => ?_
    have yu : y = u := by
      have z : its[i]? = some y := by simpa using py
      rw [hu] at z
      exact (Option.some.inj z).symm
    subst yu
    refine ⟨_, rfl, wpAny_letOwnedTupleGo_enum (s := { s with heap := g, toks := tk + 1 }) out fun g2 isE2 same => ?_⟩
    have newT2 : g2.get? s.heap.objs.size = some { cls := .type "tuple", data := .seq #[.int i tk, y] } := (same.2 _ (Nat.ne_of_gt eS)).trans newT
    have okT : ObjOk X.prog X.w (upd H s.heap.objs.size (.tup [.int (i : Nat), x])) g2 s.heap.objs.size (.tup [.int (i : Nat), x]) := ⟨by show 2 ≤ sizeLine; decide, [.int i tk, y], .cons ⟨_, rfl⟩ (.cons ru .nil), ⟨_, newT2, rfl, _, rfl⟩⟩
    have I2 : Inv X pins σ (upd H s.heap.objs.size (.tup [.int (i : Nat), x])) { s with heap := g2, toks := tk + 1 } :=
      I.turnedNew (ch := [e, it]) (fun b ob hb q => (same.2 b (fun z => hb (by simp [z]))).trans (keep b ob (fun z => hb (by simp [z])) (fun z => hb (by simp [z])) q)) hf (Nat.le_refl _) okT
    refine ⟨.ref s.heap.objs.size, _, I2, rfl, ⟨_, x, rfl, I.hok.fresh (Nat.le_refl _), rfl, fun ys hy => ?_⟩, ⟨⟨y, ?_⟩, st2.1.at fun o q => (same.2 it (Ne.symm ne)).trans q, ne⟩, fun b hb => ?_⟩
    · rw [I.tuple_inj hy tq]
      exact hx
    · have z : ((i + 1 : Nat) : Int) = (i : Int) + 1 := by omega
      rw [z]
      exact isE2
    · have lb : b < s.heap.objs.size := by
        rcases (show b = e ∨ b = it by simpa using hb) with z | z
        · exact z ▸ eS
        · exact z ▸ iS
      rw [upd_ne (Nat.ne_of_lt lb)]
      exact (hf b hb).1
  done := by
    intro X hP hw hK hc i pins s σ H E I hf st over
    subst hP hw hK
    obtain ⟨⟨old, isE⟩, isI, ne⟩ := st
    obtain ⟨xs, tq, le⟩ := over
    obtain ⟨its, rv, tup, _⟩ := I.tuple tq
    obtain ⟨c0, c1, c2, c3, c4, c5⟩ := hf it (by simp)
    have D := Draws.tuple (prog := X.prog) (w := X.w) (A := X.A.in1) (show X.A.in1.handled = none from I.ok.hd hc) it a ai its.toArray
    have full : i = its.toArray.size := by
      rw [List.size_toArray, ← rv.length]
      exact le.symm
    exact wpAny_pyNext_enum_endD D isE (full ▸ ⟨isI, tup⟩) fun g ext => ⟨rfl, I.turned (t' := s.toks) (fun b o hb q => ext b o hb q) c0 c1 c3 c4 c5⟩
  self := fun A i s Q E st h => by
    obtain ⟨⟨_, isE⟩, _⟩ := st
    exact wpAny_pyIter_enum isE h
def iEnumT (K : PySem.W.Frag) (ta : TA) : TI := fun σ H R => ta σ H fun vs H1 => ∃ a xs, vs = [.ref a] ∧ SqT K H1 a xs ∧ R (Itet K a) H1
theorem pi_enumT {X : Cx} {e : Expr} {ta : TA} {p pos tpos : Pos} {elts : List Expr} {kk : Nat} (hg : Gl X "enumerate") (hm : X.mg "enumerate" = none) (ha : PA X [e] ta) (hs : starEach [e] X.env = [(false, eval e X.env)] := by rfl) : PI X (.Tuple elts kk tpos) (.Call (.Name "enumerate" p) [e] [] pos) (iEnumT X.K ta) := by
  refine ⟨fun pins s σ H R I h => Call_ (ld_blt I hg hm boot_enumerate (PyProof.Rows.callWith_type1 (thn (ha.run pos pins s σ H _ I h) fun us s2 got => ?_) hs rfl))⟩
  obtain ⟨vs, H2, I2, rv, a, xs, rfl, tq, r⟩ := got
  cases rv with
  | cons r1 r2 =>
    cases r2
    cases r1
    obtain ⟨its, rvs, tup, _⟩ := I2.tuple tq
    have aS : a < s2.heap.objs.size := by
      obtain ⟨o, ho, _⟩ := tup
      exact Heap.lt_size ho
    refine enum1 (begins_tuple a its.toArray) tup fun g isE isI keep => wpAny_pyIter_enum isE ?_
    have I3 : Inv X pins σ H2 { s2 with heap := g } := I2.kept (t' := s2.toks) keep
    refine ⟨s2.heap.objs.size + 1, [s2.heap.objs.size + 1, s2.heap.objs.size], _, _, H2, rfl, I3, turn_enumT a (s2.heap.objs.size + 1) s2.heap.objs.size (Nat.ne_of_lt aS) (Nat.ne_of_lt (Nat.lt_succ_of_lt aS)), ⟨⟨.none, isE⟩, ⟨_, isI, rfl, rfl⟩, Nat.succ_ne_self _⟩, fun b hb => ?_, r⟩
    have above : s2.heap.objs.size ≤ b := by
      rcases (show b = s2.heap.objs.size + 1 ∨ b = s2.heap.objs.size by simpa using hb) with z | z
      · exact z ▸ Nat.le_succ _
      · exact Nat.le_of_eq z.symm
    exact I2.fpOk above (I2.hok.fresh above)
theorem walk_enumT {K : PySem.W.Frag} {a : Addr} {xs : List V} : Walk (Itet K a) xs.length (fun H => SqT K H a xs) (YPair (fun i => some (.int (i : Nat))) (fun i => xs[i]?)) where
  goes := fun i _ hi q => ⟨xs, xs[i], q, List.getElem?_eq_getElem hi⟩
  stops := fun _ q => ⟨xs, q, rfl⟩
  yields := fun i H v H' _ q y => by
    obtain ⟨t, x, h1, h2, h3, h4⟩ := y
    exact ⟨t, .int (i : Nat), x, h1, h2, h3, rfl, h4 xs q⟩
end EnumT
set_option Elab.async false
set_option linter.all false
set_option maxRecDepth 100000
set_option maxHeartbeats 4000000
/-! {(a, b): v for target in walked}: a dict comprehension without a test whose keys are tuples -/
namespace DcT
open PySem PySem.Spec PyProof.Rows L2
section
variable {X : Cx}
/-- the comprehension's own store, the key a tuple -/
theorem store {pins : List (Addr × Obj)} {σ : L2.St} {H : Hp} {s : Shared} {E : Value → Shared → Prop} {D b : Addr} {kvs : List (List Key × V)} {k : List Key} {v : V} {r : Value} {Q : Unit → Shared → Prop} (room : X.A.units + 1 < cLine) (I : Inv X pins σ H s)
    (atD : H D = some (.dT kvs)) (atB : H b = some (.tup (k.map kV))) (few : kvs.length < sizeLine) (rv : RelV v r) (next : ∀ s2, Inv X pins σ (upd H D (.dT (putK kvs k v))) s2 → Q () s2) : wpAny (model X.prog X.w) X.A (dictSet D (.ref b) r) Q E s := by
  obtain ⟨_, notSys, xs, rel, dict⟩ := dt_of I.hok atD
  have len : xs.length = kvs.length := (Paired.length rel).symm
  have fits : (putK kvs k v).length ≤ sizeLine := by
    have z := length_putK kvs k v
    omega
  refine wpAny_dictSet_heap (hsz := by omega) (show X.A.units < cLine by omega) (key_of I.hok atB) dict fun g dict2 same => next _ ?_
  obtain ⟨o, es, ep, o1, o2, o3, o4, _, o5⟩ := dict2
  refine d_write I (by rw [atD]; exact True.intro) same ⟨o, o1⟩ ⟨fits, notSys, _, (rel.put k atB rv).keeps fun c ys e => ?_, o, es, ep, o1, o2, o3, o4, o5⟩
  rw [upd_ne (ne_of e atD (fun z => nomatch z))]
  exact e
def tDcT (wi : TI) (g : TG) (tk tv : TE) (vs : List Nat) : TE := fun σ H Q => wi σ H fun J H1 => ∀ D, H1 D = none → ∃ W : Nat → Nat → Hp → Prop, (∃ m, W 0 m (upd H1 D (.dT []))) ∧ ∀ i m G, W i m G →
  (J.stop i G ∧ Q (.ref D) G) ∨ (J.go i G ∧ ∃ Nx : Hp → Prop, (∀ G2, Nx G2 → ∃ m2, m2 < m ∧ W (i + 1) m2 G2) ∧ ∀ x G2, J.yld i G x G2 → g x (wipe σ vs) G2 fun σ2 G3 => wipe σ2 vs = wipe σ vs ∧
    tk σ2 G3 fun y G4 => tv σ2 G4 fun z G5 => ∃ kvs k b, y = .ref b ∧ G5 b = some (.tup (k.map kV)) ∧ G5 D = some (.dT kvs) ∧ kvs.length < sizeLine ∧ Nx (upd G5 D (.dT (putK kvs k z))))
theorem coreT {pins : List (Addr × Obj)} {s : Shared} {σ : L2.St} {H : Hp} {Q : VK} {kx vx tg iter : Expr} {scope : Scope} {own : List (Str × Nat)} {pos pos2 : Pos} {wi : TI} {g : TG} {tk tv : TE} {use : Option (Value → Sem Unit)} {Qf : Value → Shared → Prop} (room : X.A.units + 1 < cLine) (calm : X.calm = true) (nodup : X.N.Nodup) (I : Inv X pins σ H s) (walked : PI X tg iter wi) (blk : BlkOk X.N X.env.scope scope own)
    (target : ∀ (s : Shared) (H : Hp) (C : Addr) (cl : List (Str × Addr)) (fp : List Addr), PG (X.blk s H scope (compEnvC scope cl C X.env) fp) tg g)
    (key : ∀ (s : Shared) (H : Hp) (C : Addr) (cl : List (Str × Addr)) (fp : List Addr), PE (X.blk s H scope (compEnvC scope cl C X.env) fp) kx tk)
    (val : ∀ (s : Shared) (H : Hp) (C : Addr) (cl : List (Str × Addr)) (fp : List Addr), PE (X.blk s H scope (compEnvC scope cl C X.env) fp) vx tv) (plainIter : ∀ x, foldedSetIterable iter X.env x = pure x)
    (hyp : tDcT wi g tk tv (own.map (·.2)) σ H Q)
    (finish : ∀ D C t m G, Inv X pins σ G t → Q (.ref D) G → t.heap.Ns C m → FpOk X pins G C → compPost (model X.prog X.w) X.A X.xe use Qf (.ref D) C (.ok .next) t) :
    wpAny (model X.prog X.w) X.A (comprehension (.DictComp kx vx [⟨tg, iter, [], 0⟩] scope pos) scope X.env pos2 newDict false (eval iter X.env) use) Qf X.xe s := by
  have cells : ∀ y ∈ scope.names, y.2 = .free → ∃ c, X.env.cells.lookup y.1 = some c := fun y hy e => (blk.free y hy e).elim (fun z => I.ok.has _ (.inl z)) fun z => I.ok.has _ (.inr z)
  refine wpAny_comprehension_free (use := use) rfl plainIter (closure_ok cells) blk.kind (fun y hy e => by rw [blk.uniq y hy, e]) (thn (walked.run pins s σ H _ I hyp) fun xv s1 h1 => thn h1 fun itv s2 h2 => ?_)
  obtain ⟨it, fp, tn, J, H2, rfl, I2, T, st2, f2, turns⟩ := h2
  refine wpAny_newObj_type (newEnv_comp ?_)
  -- the new dict at D
  obtain ⟨D, eD⟩ : ∃ D, s2.heap.objs.size = D := ⟨_, rfl⟩
  have newD : H2 D = none := I2.hok.fresh (Nat.le_of_eq eD)
  obtain ⟨W, ⟨m0, w0⟩, turn⟩ := turns D newD
  rw [eD]
  obtain ⟨s3, e3⟩ : ∃ s3 : Shared, s3 = { s2 with heap := s2.heap.push { cls := .type "dict", data := .dict #[] } } := ⟨_, rfl⟩
  have h3 : s3.heap = s2.heap.push { cls := .type "dict", data := .dict #[] } := by rw [e3]
  have I3 : Inv X pins σ (upd H2 D (.dT [])) s3 := by
    rw [e3]
    refine I2.laid (t' := s2.toks) (fun b o e => Heap.get?_push_of_some _ e) (Nat.le_of_eq eD) ?_
    rw [← eD]
    exact dt_empty s2.heap I2.big
  have older : ∀ b ∈ fp, b < s2.heap.objs.size := fun b hb => by
    obtain ⟨o, e, _⟩ := T.obj _ _ st2 b hb
    exact Heap.lt_size e
  have f3 : ∀ b ∈ fp, FpOk X pins (upd H2 D (.dT [])) b ∧ b < s3.heap.objs.size := fun b hb => by
    have lt := older b hb
    refine ⟨⟨?_, (f2 b hb).2⟩, ?_⟩
    · rw [upd_ne (by rw [← eD]; exact Nat.ne_of_lt lt)]
      exact (f2 b hb).1
    · rw [h3, Heap.size_push]
      exact Nat.lt_succ_of_lt lt
  have st3 : tn 0 s3.heap := T.keep _ _ _ st2 fun b _ o e => by
    rw [h3]
    exact Heap.get?_push_of_some _ e
  have I4 := block_start I3 blk nodup f3
  have pg := target s3 (upd H2 D (.dT [])) s3.heap.objs.size (cellsFrom (s3.heap.objs.size + 1) scope.names (cloFrom X.env.cells scope.names [])) fp
  have pk := key s3 (upd H2 D (.dT [])) s3.heap.objs.size (cellsFrom (s3.heap.objs.size + 1) scope.names (cloFrom X.env.cells scope.names [])) fp
  have pw := val s3 (upd H2 D (.dT [])) s3.heap.objs.size (cellsFrom (s3.heap.objs.size + 1) scope.names (cloFrom X.env.cells scope.names [])) fp
  rw [← e3]
  show codeAny _ _ (.compStart (.DictComp kx vx [⟨tg, iter, [], 0⟩] scope pos) 0 (.ref it) (.ref D) (compEnvC scope (cellsFrom (s3.heap.objs.size + 1) scope.names (cloFrom X.env.cells scope.names [])) s3.heap.objs.size X.env)) (compPost (model X.prog X.w) X.A X.xe use Qf (.ref D) s3.heap.objs.size) { s3 with heap := pushCells (s3.heap.push { cls := .type "dict", data := .dict #[] }) scope.names }
  have away : ∀ b ∈ fp, (upd H2 D (.dT [])) b = none := fun b hb => (f3 b hb).1.1
  obtain ⟨ce, ece⟩ : ∃ ce, compEnvC scope (cellsFrom (s3.heap.objs.size + 1) scope.names (cloFrom X.env.cells scope.names [])) s3.heap.objs.size X.env = ce := ⟨_, rfl⟩
  rw [ece] at I4 pg pk pw ⊢
  have own' : ce.locals = s3.heap.objs.size := by
    rw [← ece]
    rfl
  obtain ⟨H3, eH3⟩ : ∃ H3, upd H2 D (.dT []) = H3 := ⟨_, rfl⟩
  rw [eH3] at I3 I4 pg pk pw w0 away f3
  obtain ⟨s4, e4⟩ : ∃ s4 : Shared, ({ s3 with heap := pushCells (s3.heap.push { cls := .type "dict", data := .dict #[] }) scope.names } : Shared) = s4 := ⟨_, rfl⟩
  rw [e4] at I4 ⊢
  have st4 : tn 0 s4.heap := T.keep _ _ _ st3 fun b _ o e => by
    rw [← e4]
    exact pushCells_keeps _ _ _ _ (Heap.get?_push_of_some _ e)
  have still : ∀ {σ2 : L2.St} {G : Hp} {t : Shared}, Inv (X.blk s3 H3 scope ce fp) [] σ2 G t → (∀ b ∈ fp, G b = none) → ∀ b ∈ fp, FpOk (X.blk s3 H3 scope ce fp) [] G b := fun {σ2 G t} J2 hn b hb =>
    ⟨hn b hb, (J2.ok.exf b hb).1, J2.ok.exfs b hb, .inl hb, fun x c e => (J2.ok.exf b hb).2 x c e, fun p hp => absurd (show p ∈ ([] : List (Addr × Obj)) ++ [] from hp) (by simp)⟩
  have loop : codeAny (model X.prog X.w) X.A (.compLoop (.DictComp kx vx [⟨tg, iter, [], 0⟩] scope pos) 0 (.ref it) (.ref D) ce) (compPost (model X.prog X.w) X.A X.xe use Qf (.ref D) s3.heap.objs.size) s4 := by
    refine compLoop_anyD (fun n t => ∃ i G, Inv (X.blk s3 H3 scope ce fp) [] (wipe σ (own.map (·.2))) G t ∧ tn i t.heap ∧ (∀ b ∈ fp, G b = none) ∧ W i n G) ?_ m0 ⟨0, H3, I4, st4, away, w0⟩
    rintro n s5 ⟨i, G5, I5, st5, n5, w5⟩
    rcases turn i n G5 w5 with ⟨halt, qq⟩ | ⟨more, Nx, onward, step⟩
    · refine thnF (T.done (X.blk s3 H3 scope ce fp) rfl rfl rfl calm i [] s5 _ G5 (fun _ _ => False) I5 (still I5 n5) st5 halt) fun r s6 ⟨er, I6⟩ => ?_
      subst er
      have I7 : Inv X pins σ G5 s6 := I3.call' (ch := fp) I6.os I6.base I6.hok I6.bare fun b hb => by
        obtain ⟨_, c1, c2, c3, c4, c5⟩ := (f3 b hb).1
        exact ⟨c3, c1, c4, c5⟩
      have freeL : G5 s3.heap.objs.size = none := by
        have z : G5 ce.locals = none := I6.free
        rwa [own'] at z
      obtain ⟨m, names, _⟩ := I6.loc
      have names' : s6.heap.Ns s3.heap.objs.size m := by
        have z : s6.heap.Ns ce.locals m := names
        rwa [own'] at z
      exact finish D s3.heap.objs.size s6 m G5 I7 qq names' (I3.fpOk (Nat.le_refl _) freeL)
    · refine thnF (T.item (X.blk s3 H3 scope ce fp) rfl rfl rfl calm i [] s5 _ G5 (fun _ _ => False) I5 (still I5 n5) st5 more) fun r s6 ⟨u, er, h6⟩ => ?_
      subst er
      refine thnF h6 fun _ s7 ⟨x, G7, I7, r7, y7, st7, n7⟩ => ?_
      have I8 := I7.pinned (still I7 n7) (T.obj _ _ st7)
      refine thnF (pg.run _ s7 _ G7 x u _ I8 r7 (step x G7 y7)) fun _ s9 ⟨σ9, G9, I9, keepW, q9⟩ => ?_
      show wpAny _ _ (pure true : Sem Bool) _ _ _
      refine wpAny_pure ?_
      rw [if_pos rfl]
      refine thnF (pk.run _ s9 σ9 G9 _ I9 q9) fun z s10 ⟨yk, G10, I10, r10, q10⟩ => ?_
      refine thnF (pw.run _ s10 σ9 G10 _ I10 q10) fun z2 s11 ⟨yv, G11, I11, r11, kvs, k, b, ek, atB, atD, few, nx⟩ => ?_
      subst ek
      cases r10
      refine store (X := X.blk s3 H3 scope ce fp) room I11 atD atB few r11 fun s12 I12 => ?_
      obtain ⟨m2, lt, w'⟩ := onward _ nx
      have pinned : ∀ b ∈ fp, ∀ o, s7.heap.get? b = some o → s12.heap.get? b = some o ∧ (upd G11 D (.dT (putK kvs k yv))) b = none := fun b hb o e => by
        have y := I12.pin (b, o) (List.mem_append_right _ (List.mem_append_right _ (mem_pinsAt hb e)))
        exact ⟨y.1, y.2.1⟩
      have sameLen : (wipe σ (own.map (·.2))).length = σ9.length := by rw [← keepW, wipe_length]
      refine ⟨m2, lt, i + 1, _, (I12.unpinned (pins := [])).weak sameLen (fun j v e => ?_), T.keep _ _ _ st7 fun b hb o e => (pinned b hb o e).1, fun b hb => ?_, w'⟩
      · rw [← keepW] at e
        exact (wipe_some e).1
      · obtain ⟨o, e, _⟩ := T.obj _ _ st7 b hb
        exact (pinned b hb o e).2
  exact codeAny_compStart_dict loop (T.self X.A 0 _ _ _ st4 loop)
theorem pe_dcT {kx vx tg iter : Expr} {scope : Scope} {own : List (Str × Nat)} {pos : Pos} {wi : TI} {g : TG} {tk tv : TE} (room : X.A.units + 1 < cLine) (calm : X.calm = true) (nodup : X.N.Nodup) (walked : PI X tg iter wi) (blk : BlkOk X.N X.env.scope scope own)
    (target : ∀ (s : Shared) (H : Hp) (C : Addr) (cl : List (Str × Addr)) (fp : List Addr), PG (X.blk s H scope (compEnvC scope cl C X.env) fp) tg g)
    (key : ∀ (s : Shared) (H : Hp) (C : Addr) (cl : List (Str × Addr)) (fp : List Addr), PE (X.blk s H scope (compEnvC scope cl C X.env) fp) kx tk)
    (val : ∀ (s : Shared) (H : Hp) (C : Addr) (cl : List (Str × Addr)) (fp : List Addr), PE (X.blk s H scope (compEnvC scope cl C X.env) fp) vx tv) (plainIter : ∀ x, foldedSetIterable iter X.env x = pure x := by intro _; rfl) :
    PE X (.DictComp kx vx [⟨tg, iter, [], 0⟩] scope pos) (tDcT wi g tk tv (own.map (·.2))) := by
  refine ⟨fun pins s σ H Q I hyp => ?_⟩
  rw [arm_eval_DictComp]
  refine coreT room calm nodup I walked blk target key val plainIter hyp fun D C t m G J q names fp => ⟨m, names, fun g2 same => ?_⟩
  obtain ⟨c0, c1, c2, c3, c4, c5⟩ := fp
  exact ⟨.ref D, G, J.turned (t' := t.toks) (fun b o hb e => (same.2 b hb).trans e) c0 c1 c3 c4 c5, rfl, q⟩
/-- what follows where the new dict is bound at once -/
theorem bound {pins : List (Addr × Obj)} {σ : L2.St} {E : Ends} {i : Nat} {y : Str} {py : Pos} (nodup : X.N.Nodup) (hy : X.N[i]? = some y) (loc : X.env.scope.names.lookup y = some .local) {D C : Addr} {t : Shared} {m : Str → Option Value} {G : Hp} (J : Inv X pins σ G t) (q : E.nx (σ.set i (some (.ref D))) G) (names : t.heap.Ns C m) (fp : FpOk X pins G C) :
    compPost (model X.prog X.w) X.A X.xe (some (assign (.Name y py) X.env)) (fun _ t2 => SP X pins E .next t2) (.ref D) C (.ok .next) t := by
  show wpAny _ _ (assign (.Name y py) X.env (.ref D)) _ _ _
  refine wpAny_assign_Name (store_ok2 (v := V.ref D) J nodup hy (.inl loc) rfl (fun t2 J2 ⟨a, same, at'⟩ => ?_) (.inr loc))
  obtain ⟨c0, c1, c2, c3, c4, c5⟩ := fp
  have ne : C ≠ a := fun e => by
    rcases at' with z | z
    · exact c1 (e.trans z)
    · exact c4 y a z e.symm
  exact ⟨m, names.sameBut same ne, fun g3 same3 => ⟨_, G, J2.turned (t' := t2.toks) (fun b o hb e => (same3.2 b hb).trans e) c0 c1 c3 c4 c5, q⟩⟩
theorem used {kx vx tg iter : Expr} {ifs : List Expr} {scope : Scope} {pos spos py : Pos} {y : Str} {Q : Flow → Shared → Prop} {s : Shared} (sw : swapsWith (.DictComp kx vx [⟨tg, iter, ifs, 0⟩] scope pos) (some (.Name y py)) spos.line X.env = pure true)
    (h : wpAny (model X.prog X.w) X.A (comprehension (.DictComp kx vx [⟨tg, iter, ifs, 0⟩] scope pos) scope X.env (firstIterPos [⟨tg, iter, ifs, 0⟩] pos) newDict false (eval iter X.env) (some (assign (.Name y py) X.env))) (fun _ t2 => Q .next t2) X.xe s) :
    wpAny (model X.prog X.w) X.A (exec (.Assign [.Name y py] (.DictComp kx vx [⟨tg, iter, ifs, 0⟩] scope pos) spos) X.env) Q X.xe s := by
  rw [exec_Assign_Name_used _ _ _ _ sw]
  refine wpAny_bind (wpAny_standAt (wpAny_bind ?_))
  show wpAny _ X.A (do let _ ← comprehension (.DictComp kx vx [⟨tg, iter, ifs, 0⟩] scope pos) scope X.env (firstIterPos [⟨tg, iter, ifs, 0⟩] pos) newDict false (eval iter X.env) (some (assign (.Name y py) X.env))) _ _ s
  exact wpAny_bind (thn h fun _ t2 q => wpAny_pure (wpAny_pure q))
/-- y = {(a, b): v for ..}, on one row -/
theorem ps_setDcT {i : Nat} {y : Str} {py : Pos} {kx vx tg iter : Expr} {scope : Scope} {own : List (Str × Nat)} {pos spos : Pos} {wi : TI} {g : TG} {tk tv : TE} (room : X.A.units + 1 < cLine) (calm : X.calm = true) (nodup : X.N.Nodup) (hy : X.N[i]? = some y) (loc : X.env.scope.names.lookup y = some .local)
    (sw : swapsWith (.DictComp kx vx [⟨tg, iter, [], 0⟩] scope pos) (some (.Name y py)) spos.line X.env = pure true) (walked : PI X tg iter wi) (blk : BlkOk X.N X.env.scope scope own)
    (target : ∀ (s : Shared) (H : Hp) (C : Addr) (cl : List (Str × Addr)) (fp : List Addr), PG (X.blk s H scope (compEnvC scope cl C X.env) fp) tg g)
    (key : ∀ (s : Shared) (H : Hp) (C : Addr) (cl : List (Str × Addr)) (fp : List Addr), PE (X.blk s H scope (compEnvC scope cl C X.env) fp) kx tk)
    (val : ∀ (s : Shared) (H : Hp) (C : Addr) (cl : List (Str × Addr)) (fp : List Addr), PE (X.blk s H scope (compEnvC scope cl C X.env) fp) vx tv) (plainIter : ∀ x, foldedSetIterable iter X.env x = pure x := by intro _; rfl) :
    PS X (.Assign [.Name y py] (.DictComp kx vx [⟨tg, iter, [], 0⟩] scope pos) spos) (tAsg (tDcT wi g tk tv (own.map (·.2))) (gName i)) := by
  refine ⟨fun pins s σ H E I hyp => used sw ?_⟩
  have hyp : tDcT wi g tk tv (own.map (·.2)) σ H (fun x G => gName i x σ G E.nx) := hyp
  exact coreT room calm nodup I walked blk target key val plainIter hyp fun D C t m G J q names fp => bound nodup hy loc J q names fp
/-- y = {a: v for ..}, keys numbers or texts, on one row -/
theorem ps_setDc {i : Nat} {y : Str} {py : Pos} {kx vx tg iter : Expr} {ifs : List Expr} {scope : Scope} {own : List (Str × Nat)} {pos spos : Pos} {wi : TI} {g : TG} {tt : TT} {tk tv : TE} (calm : X.calm = true) (nodup : X.N.Nodup) (hy : X.N[i]? = some y) (loc : X.env.scope.names.lookup y = some .local)
    (sw : swapsWith (.DictComp kx vx [⟨tg, iter, ifs, 0⟩] scope pos) (some (.Name y py)) spos.line X.env = pure true) (walked : PI X tg iter wi) (blk : BlkOk X.N X.env.scope scope own)
    (target : ∀ (s : Shared) (H : Hp) (C : Addr) (cl : List (Str × Addr)) (fp : List Addr), PG (X.blk s H scope (compEnvC scope cl C X.env) fp) tg g) (tests : ∀ (s : Shared) (H : Hp) (C : Addr) (cl : List (Str × Addr)) (fp : List Addr), PTs (X.blk s H scope (compEnvC scope cl C X.env) fp) ifs tt)
    (key : ∀ (s : Shared) (H : Hp) (C : Addr) (cl : List (Str × Addr)) (fp : List Addr), PE (X.blk s H scope (compEnvC scope cl C X.env) fp) kx tk)
    (val : ∀ (s : Shared) (H : Hp) (C : Addr) (cl : List (Str × Addr)) (fp : List Addr), PE (X.blk s H scope (compEnvC scope cl C X.env) fp) vx tv) (plainIter : ∀ x, foldedSetIterable iter X.env x = pure x := by intro _; rfl) :
    PS X (.Assign [.Name y py] (.DictComp kx vx [⟨tg, iter, ifs, 0⟩] scope pos) spos) (tAsg (tDc wi g tt tk tv (own.map (·.2))) (gName i)) := by
  refine ⟨fun pins s σ H E I hyp => used sw ?_⟩
  have hyp : tDc wi g tt tk tv (own.map (·.2)) σ H (fun x G => gName i x σ G E.nx) := hyp
  exact dc_core calm nodup I walked blk target tests key val plainIter hyp fun D C t m G J q names fp => bound nodup hy loc J q names fp
theorem sw_dict {kx vx : Expr} {gs : List Comprehension} {scope : Scope} {pos py : Pos} {y : Str} {l : Nat} {env : Env} (fn : env.scope.kind = .function) (loc : env.scope.names.lookup y = some .local) (row : (py.line == pos.line) = true)
    (apart : (scope.names.any fun (n, k) => n == y && (k == .local || k == .cell)) = false) : swapsWith (.DictComp kx vx gs scope pos) (some (.Name y py)) l env = pure true := by
  have k1 : env.kindOf y = some .local := loc
  have k2 : env.blockKind = .function := by
    unfold Env.blockKind
    rw [fn]
    rfl
  unfold swapsWith
  simp only [k1, k2, apart, Expr.pos, row]
  rfl
end
end DcT
set_option Elab.async false
set_option linter.all false
set_option maxRecDepth 100000
set_option maxHeartbeats 4000000
/-! for v in d.values(), the keys of d tuples; a dict that is made in place and locked from there on -/
namespace ValT
open PySem PySem.Spec PyProof.Rows L2
/-- what e hands back, a dict of its own, is locked -/
def tLockd (td : TE) : TE := fun σ H Q => td σ H fun x H1 => ∃ d u, x = .ref d ∧ H1 d = some u ∧ Mut (some u) ∧ ∀ od, Q x (upd H1 d (.frz od u))
section
variable {X : Cx} {pins : List (Addr × Obj)} {σ : L2.St} {H : Hp} {s : Shared}
theorem pe_lockd {e : Expr} {td : TE} (he : PE X e td) : PE X e (tLockd td) := ⟨fun pins s σ H Q I hyp => thn (he.run pins s σ H _ I hyp) fun v s2 ⟨x, H2, I2, rx, d, u, ex, hd, mu, k⟩ => by
  obtain ⟨od, I3⟩ := I2.lock hd mu
  exact ⟨x, _, I3, rx, k od⟩⟩
theorem raw_vals {d : Addr} {o : Obj} {kvs : List (List Key × V)} (I : Inv X pins σ H s) (h : H d = some (.frz o (.dT kvs))) :
    (d == sysModules) = false ∧ s.heap.get? d = some o ∧ ∃ es ep, o.data = .dict es ep ∧ s.heap.DictRaw d es ep ∧ es.size = kvs.length ∧ ∀ i (hi : i < es.size), ∃ k v, kvs[i]? = some (k, v) ∧ RelV v es[i].val := by
  obtain ⟨hd, z, hs, xs, pr, o', es, ep, ho, hx, hdt, he, _⟩ := I.hok d _ h
  rw [hd] at ho
  cases ho
  have l1 : es.size = xs.length := size_of_entries he
  have l2 : kvs.length = xs.length := Paired.length pr
  refine ⟨hs, hd, es, ep, hdt, ⟨o, hd, hx, hdt⟩, by omega, fun i hi => ?_⟩
  obtain ⟨kv, hkv⟩ : ∃ kv, kvs[i]? = some kv := ⟨kvs[i]'(by omega), List.getElem?_eq_getElem (by omega)⟩
  obtain ⟨b, hb, e1, e2, e3⟩ := paired_get pr hkv
  have q := entry_at he i
  rw [hb, Array.getElem?_eq_getElem hi] at q
  have q2 := Option.some.inj q
  refine ⟨kv.1, kv.2, hkv, ?_⟩
  rw [q2]
  exact e3
end
/-- the values of the locked dict at d, in their order -/
def Itdt (d : Addr) (o : Obj) (kvs : List (List Key × V)) : It where
  go := fun i H => H d = some (.frz o (.dT kvs)) ∧ i < kvs.length
  yld := fun i H x H' => H' = H ∧ ∃ k, kvs[i]? = some (k, x)
  stop := fun i H => H d = some (.frz o (.dT kvs)) ∧ kvs.length ≤ i
section
variable {P : Program} {w : World} {K : PySem.W.Frag} {tg : Expr} {d : Addr} {o : Obj} {es : Array DictEntry} {ep : Nat}
theorem turn_valsT {kvs : List (List Key × V)} (it : Addr) (od : o.data = .dict es ep) : Turn P w K tg (Itdt d o kvs) [it] it (fun i h => h.IsValIter it d i kvs.length ep) where
  mem := by simp
  obj := fun i h st b hb => by
    obtain ⟨oi, e, c, dd⟩ := st
    exact ⟨oi, (show b = it by simpa using hb) ▸ e, fun v z => by rw [dd] at z; cases z⟩
  keep := fun i g g2 st k => st.at fun oi e => k it (by simp) oi e
  item := by
    intro X hP hw hK hc i pins s σ H E I hf st more
    subst hP hw hK
    obtain ⟨hd, lt⟩ := more
    obtain ⟨c0, c1, c2, c3, c4, c5⟩ := hf it (by simp)
    obtain ⟨_, _, es2, ep2, od2, raw, sz, vals⟩ := raw_vals I hd
    obtain ⟨rfl, rfl⟩ := dict_ep od od2
    rw [← sz] at st
    have lt2 : i < es2.size := by omega
    obtain ⟨k, v, hkv, rv⟩ := vals i lt2
    refine wpAny_pyNext_values_item_raw st raw lt2 fun g st2 same => ?_
    have I2 : Inv X pins σ H { s with heap := g } := I.turned (t' := s.toks) (fun b ob hb e => (same.2 b hb).trans e) c0 c1 c3 c4 c5
    obtain ⟨oi, e, c, dd⟩ := id st2
    refine ⟨_, rfl, go_of (s := { s with heap := g }) e c dd (by decide) ⟨v, H, I2, rv, ⟨rfl, k, hkv⟩, ?_, fun b hb => (hf b hb).1⟩⟩
    rw [sz] at st2
    exact st2
  done := by
    intro X hP hw hK hc i pins s σ H E I hf st over
    subst hP hw hK
    obtain ⟨hd, le⟩ := over
    obtain ⟨c0, c1, c2, c3, c4, c5⟩ := hf it (by simp)
    obtain ⟨_, _, es2, ep2, od2, raw, sz, _⟩ := raw_vals I hd
    obtain ⟨rfl, rfl⟩ := dict_ep od od2
    rw [← sz] at st
    exact wpAny_pyNext_values_end_raw (I.ok.hd hc) st raw (by omega) fun g ext => ⟨rfl, I.turned (t' := s.toks) (fun b ob hb e => ext b ob hb e) c0 c1 c3 c4 c5⟩
  self := fun A i s Q E st h => wpAny_pyIter_valiter st h
end
def iValsT (td : TE) : TI := fun σ H R => td σ H fun x H1 => ∃ d o kvs, x = .ref d ∧ H1 d = some (.frz o (.dT kvs)) ∧ R (Itdt d o kvs) H1
theorem pi_valuesT {X : Cx} {tg e : Expr} {td : TE} {apos cpos : Pos} (he : PE X e td) (plainBase : attributeBase e "values" X.env (eval e X.env) = eval e X.env := by rfl) (oneLine : (apos.endLine == cpos.line) = true := by rfl) : PI X tg (.Call (.Attribute e "values" apos) [] [] cpos) (iValsT td) := by
  refine ⟨fun pins s σ H R I hyp => wpAny_Call_method (T := "dict") (id := "dict.values") plainBase rfl oneLine F.plainAttrs_dict F.slot_dict_values F.type_dict_values (thn (he.run pins s σ H _ I hyp) fun u s2 got => ?_)⟩
  obtain ⟨x, H2, I2, rx, d, o, kvs, rfl, hd, r⟩ := got
  obtain rfl : u = Value.ref d := rx
  obtain ⟨notSys, _, es, ep, od, raw, sz, _⟩ := raw_vals I2 hd
  refine ⟨raw.typeIs, ?_, ?_⟩
  · exact (isD_at I2 (.inr ⟨kvs, .inr ⟨o, hd⟩⟩)).2.1
  have I3 : Inv X pins σ H2 { s2 with heap := s2.heap.push { cls := .type "dict_values", data := .fields #[.ref d] } } := I2.kept (t' := s2.toks) fun b ob q => Heap.get?_push_of_some _ q
  have iter : wpAny (model X.prog X.w) X.A (pyIter (.ref s2.heap.objs.size)) (PIE X pins σ tg R) X.xe { s2 with heap := s2.heap.push { cls := .type "dict_values", data := .fields #[.ref d] } } := by
    refine wpAny_pyIter_values_raw (d := d) ⟨_, Heap.get?_push_size _ rfl, rfl, rfl⟩ (raw.at fun o e => Heap.get?_push_of_some _ e) (pi_one (tk := s2.toks) I3 _ (turn_valsT _ od) ⟨_, Heap.get?_push_size _ rfl, rfl, ?_⟩ r)
    rw [sz] <;> rfl
  show wpAny _ _ (callWith cpos (.builtin "dict.values") [.ref d] [] []) _ X.xe s2
  exact method_meetsIn F.slot_dict_values F.entry_dict_values rfl (PySem.evalArgs_none ⟨rfl, raw.typeIs, F.args_dict_values_1 _, _, meets_dict_values_raw d notSys, ⟨es, ep, raw⟩, iter⟩)
theorem walk_valuesT {d : Addr} {o : Obj} {kvs : List (List Key × V)} : Walk (Itdt d o kvs) kvs.length (fun H => H d = some (.frz o (.dT kvs))) (fun i H x H' => H' = H ∧ ∃ k, kvs[i]? = some (k, x)) where
  goes := fun _ _ hi q => ⟨q, hi⟩
  stops := fun _ q => ⟨q, Nat.le_refl _⟩
  yields := fun _ _ _ _ _ _ y => y
end ValT
set_option Elab.async false
set_option linter.all false
set_option maxRecDepth 100000
set_option maxHeartbeats 4000000
namespace DcT
open PySem PySem.Spec PyProof.Rows L2
theorem it_dT {J : It} {n : Nat} {G : Hp → Prop} {Y : Nat → Hp → V → Hp → Prop} (w : Walk J n G Y) {g : TG} {tk tv : TE} {vs : List Nat} {σ : L2.St} {H1 : Hp} {D : Addr} {Qd : Hp → Prop} (Pv : Nat → Hp → Prop) (h0 : Pv 0 (upd H1 D (.dT []))) (hG : ∀ i H, i ≤ n → Pv i H → G H)
    (hs : ∀ i x H H', i < n → Pv i H → Y i H x H' → g x (wipe σ vs) H' fun σ2 H2 => wipe σ2 vs = wipe σ vs ∧ tk σ2 H2 fun y H3 => tv σ2 H3 fun z H4 => ∃ kvs k b, y = .ref b ∧ H4 b = some (.tup (k.map kV)) ∧ H4 D = some (.dT kvs) ∧ kvs.length < sizeLine ∧ Pv (i + 1) (upd H4 D (.dT (putK kvs k z))))
    (hd : ∀ H, Pv n H → Qd H) : ∃ W : Nat → Nat → Hp → Prop, (∃ m, W 0 m (upd H1 D (.dT []))) ∧ ∀ i m H, W i m H →
      (J.stop i H ∧ Qd H) ∨ (J.go i H ∧ ∃ Nx : Hp → Prop, (∀ H', Nx H' → ∃ m', m' < m ∧ W (i + 1) m' H') ∧ ∀ x H', J.yld i H x H' → g x (wipe σ vs) H' fun σ2 H2 => wipe σ2 vs = wipe σ vs ∧
        tk σ2 H2 fun y H3 => tv σ2 H3 fun z H4 => ∃ kvs k b, y = .ref b ∧ H4 b = some (.tup (k.map kV)) ∧ H4 D = some (.dT kvs) ∧ kvs.length < sizeLine ∧ Nx (upd H4 D (.dT (putK kvs k z)))) := by
  refine ⟨fun i m H => m = n - i ∧ i ≤ n ∧ Pv i H, ⟨n, rfl, Nat.zero_le _, h0⟩, ?_⟩
  rintro i m H ⟨rfl, le, p⟩
  have q := hG i H le p
  rcases Nat.lt_or_ge i n with lt | ge
  · exact .inr ⟨w.goes i H lt q, Pv (i + 1), fun H' p' => ⟨n - (i + 1), by omega, rfl, lt, p'⟩, fun x H' y => hs i x H H' lt p (w.yields i H x H' lt q y)⟩
  · obtain rfl : i = n := by omega
    exact .inl ⟨w.stops H q, hd H p⟩
theorem it_dK {J : It} {n : Nat} {G : Hp → Prop} {Y : Nat → Hp → V → Hp → Prop} (w : Walk J n G Y) {g : TG} {tt : TT} {tk tv : TE} {vs : List Nat} {σ : L2.St} {H1 : Hp} {D : Addr} {Qd : Hp → Prop} (Pv : Nat → Hp → Prop) (h0 : Pv 0 (upd H1 D (.dK []))) (hG : ∀ i H, i ≤ n → Pv i H → G H)
    (hs : ∀ i x H H', i < n → Pv i H → Y i H x H' → g x (wipe σ vs) H' fun σ2 H2 => wipe σ2 vs = wipe σ vs ∧ tt σ2 H2 fun b H3 => if b = true then tk σ2 H3 fun y H4 => tv σ2 H4 fun z H5 => ∃ kvs k, y = kV k ∧ H5 D = some (.dK kvs) ∧ kvs.length < sizeLine ∧ Pv (i + 1) (upd H5 D (.dK (putK kvs k z))) else Pv (i + 1) H3)
    (hd : ∀ H, Pv n H → Qd H) : ∃ W : Nat → Nat → Hp → Prop, (∃ m, W 0 m (upd H1 D (.dK []))) ∧ ∀ i m H, W i m H →
      (J.stop i H ∧ Qd H) ∨ (J.go i H ∧ ∃ Nx : Hp → Prop, (∀ H', Nx H' → ∃ m', m' < m ∧ W (i + 1) m' H') ∧ ∀ x H', J.yld i H x H' → g x (wipe σ vs) H' fun σ2 H2 => wipe σ2 vs = wipe σ vs ∧ tt σ2 H2 fun b H3 =>
        if b = true then tk σ2 H3 fun y H4 => tv σ2 H4 fun z H5 => ∃ kvs k, y = kV k ∧ H5 D = some (.dK kvs) ∧ kvs.length < sizeLine ∧ Nx (upd H5 D (.dK (putK kvs k z))) else Nx H3) := by
  refine ⟨fun i m H => m = n - i ∧ i ≤ n ∧ Pv i H, ⟨n, rfl, Nat.zero_le _, h0⟩, ?_⟩
  rintro i m H ⟨rfl, le, p⟩
  have q := hG i H le p
  rcases Nat.lt_or_ge i n with lt | ge
  · exact .inr ⟨w.goes i H lt q, Pv (i + 1), fun H' p' => ⟨n - (i + 1), by omega, rfl, lt, p'⟩, fun x H' y => hs i x H H' lt p (w.yields i H x H' lt q y)⟩
  · obtain rfl : i = n := by omega
    exact .inl ⟨w.stops H q, hd H p⟩
end DcT
namespace Lw
open PySem PySem.Spec PyProof.Rows L2
/-- the first n slots of the owner nm, stored one by one -/
def putN (acc : List (List Key × V)) (nm : Str) (zs : List Str) : Nat → List (List Key × V)
  | 0 => acc
  | i + 1 => putK (putN acc nm zs i) [.inr nm, .inl (i : Int)] (.str (zs.getD i ""))
def kbsI (rs its : List PyData) : Nat → List (List Key × V)
  | 0 => putN [] "" (rs.map strD) rs.length
  | j + 1 => putN (kbsI rs its j) (nameD (its.getD j .none)) (slotsD (its.getD j .none)) (slotsD (its.getD j .none)).length
/-- the kinds of all slots, by slot -/
def kbs (rs its : List PyData) : List (List Key × V) := kbsI rs its its.length
theorem putN_len {acc : List (List Key × V)} {nm : Str} {zs : List Str} : ∀ n, (putN acc nm zs n).length ≤ acc.length + n
  | 0 => Nat.le_refl _
  | i + 1 => by
    have a := putN_len (acc := acc) (nm := nm) (zs := zs) i
    have b := length_putK (putN acc nm zs i) [.inr nm, .inl (i : Int)] (.str (zs.getD i ""))
    show (putK _ _ _).length ≤ _
    omega
theorem slots4 {its : List PyData} (h : its.all itemD = true) (j : Nat) : (slotsD (its.getD j .none)).length ≤ 4 := by
  rw [List.getD_eq_getElem?_getD]
  cases e : its[j]? with
  | none => exact Nat.zero_le _
  | some d => exact (item_shape (List.all_eq_true.mp h d (List.mem_of_getElem? e))).2
theorem kbsI_len {rs its : List PyData} (h : its.all itemD = true) : ∀ j, (kbsI rs its j).length ≤ rs.length + 4 * j
  | 0 => by
    have a := putN_len (acc := []) (nm := "") (zs := rs.map strD) rs.length
    show (putN _ _ _ _).length ≤ _
    simpa using a
  | j + 1 => by
    have a := kbsI_len (rs := rs) h j
    have b := putN_len (acc := kbsI rs its j) (nm := nameD (its.getD j .none)) (zs := slotsD (its.getD j .none)) (slotsD (its.getD j .none)).length
    have c := slots4 h j
    show (putN _ _ _ _).length ≤ _
    omega
/-- what is known of every entry -/
def okKb (ks : List Str) (kvs : List (List Key × V)) : Prop := ∀ kv ∈ kvs, (∃ (s : Str) (i : Int), kv.1 = [.inr s, .inl i]) ∧ ∃ z ∈ ks, kv.2 = .str z
theorem okKb_put {ks : List Str} {kvs : List (List Key × V)} {k : List Key} {v : V} (h : okKb ks kvs) (hk : ∃ (s : Str) (i : Int), k = [.inr s, .inl i]) (hv : ∃ z ∈ ks, v = .str z) : okKb ks (putK kvs k v) := by
  intro kv hkv
  unfold putK at hkv
  split at hkv
  · obtain ⟨x, hx, rfl⟩ := List.mem_map.mp hkv
    by_cases e : x.1 = k
    · rw [if_pos e]
      exact ⟨(h x hx).1, hv⟩
    · rw [if_neg e]
      exact h x hx
  · rcases List.mem_append.mp hkv with z | z
    · exact h kv z
    · rw [List.mem_singleton.mp z]
      exact ⟨hk, hv⟩
theorem okKb_putN {ks : List Str} {acc : List (List Key × V)} {nm : Str} {zs : List Str} (h : okKb ks acc) (hz : ∀ z ∈ zs, z ∈ ks) : ∀ n, n ≤ zs.length → okKb ks (putN acc nm zs n)
  | 0, _ => h
  | i + 1, le => okKb_put (okKb_putN h hz i (by omega)) ⟨_, _, rfl⟩ ⟨_, hz _ (getD_mem (by omega)), rfl⟩
theorem kbsI_ok {rs its : List PyData} : ∀ j, okKb (kindsS rs its) (kbsI rs its j)
  | 0 => okKb_putN (fun kv h => by cases h) (fun z hz => List.mem_append_left _ hz) _ (by rw [List.length_map]; exact Nat.le_refl _)
  | j + 1 => by
    refine okKb_putN (kbsI_ok j) (fun z hz => ?_) _ (Nat.le_refl _)
    refine List.mem_append_right _ (List.mem_flatMap.mpr ?_)
    rw [List.getD_eq_getElem?_getD] at hz
    cases e : its[j]? with
    | none =>
      rw [e] at hz
      cases hz
    | some d =>
      rw [e] at hz
      exact ⟨d, List.mem_of_getElem? e, List.mem_cons_of_mem _ hz⟩
theorem has_putN {acc : List (List Key × V)} {nm : Str} {zs : List Str} {k : List Key} (h : (valV acc k).isSome = true) : ∀ n, (valV (putN acc nm zs n) k).isSome = true
  | 0 => h
  | i + 1 => by
    show (valV (putK _ _ _) k).isSome = true
    rw [valV_put]
    split
    · rfl
    · exact has_putN h i
theorem has_first {zs : List Str} : ∀ n, 0 < n → (valV (putN [] "" zs n) [.inr "", .inl 0]).isSome = true
  | 1, _ => by
    show (valV (putK _ _ _) _).isSome = true
    rw [valV_put]
    split
    · rfl
    · rename_i h
      exact absurd rfl h
  | n + 2, _ => by
    show (valV (putK _ _ _) _).isSome = true
    rw [valV_put]
    split
    · rfl
    · exact has_first (n + 1) (Nat.succ_pos _)
theorem kbsI_root {rs its : List PyData} (h : 0 < rs.length) : ∀ j, (valV (kbsI rs its j) [.inr "", .inl 0]).isSome = true
  | 0 => has_first _ h
  | j + 1 => has_putN (kbsI_root h j) _
abbrev sKbs : Stmt := topS 17
abbrev nKbs : List Str := ["inventory", "roots", "items", "i", "kind", "kinds", "name", "_", "slots"]
theorem scKbs : FnScope nKbs ["inventory"] (defScope sKbs) := ⟨rfl, rfl, rfl, by decide +kernel, rfl, by decide +kernel, by decide +kernel⟩
abbrev spKbs : Sp := fun vs H Q _ => ∃ F rs its, Evl.Ex F H ∧ Dl.TlAll F vs [.tuple [.tuple rs, .list its]] ∧ okInv rs its ∧ ∀ d F' H', Dl.Stp F H F' H' → F' d = none → H d = none → H' d = some (.dT (kbs rs its)) → Q (.ref d) H'
section
variable {P : Program} {w : World} {K : PySem.W.Frag} {mg : Str → Option Value} {base : Heap}
theorem ok_kbs {f : Addr} {fd : FuncData} (F : Fun K "kinds_by_slot" "kinds_by_slot" sKbs f fd) (me : mg "enumerate" = none) : FnOk P w K mg base CX0 1 f fd ["inventory"] spKbs := by
  refine F.ok scKbs (fun vs H Q E h => ?_) (fun cdv A outer s H vs Q E hr h => ?_)
  · obtain ⟨F, rs, its, _, ht, _⟩ := h
    exact ht.length
  · obtain ⟨F, rs, its, b, ht, ⟨hrs, hrl, hits, hil⟩, q⟩ := h
    have nd := scKbs.nd
    have hu1 : (A.deeper (envOfC "kinds_by_slot" (defScope sKbs) s.heap.objs.size f cdv)).units + 1 < cLine := by
      have z := hr.units
      omega
    refine ⟨_, pss_cons (ps_asg (pv 0) (pg_tup rfl (pgs_cons (pg_name (i := 1) nd rfl (.inl rfl)) (pgs_cons (pg_name (i := 2) nd rfl (.inl rfl)) pgs_nil))))
      (pss_cons (DcT.ps_setDcT (i := 5) (own := [("i", 3), ("kind", 4)]) (g := gTup K 2 (gCons (gName 3) (gCons (gName 4) gNil))) (tk := tTup (tCons (tC (.str "")) (tCons (tVar 3) tNil))) (tv := tVar 4) hu1 rfl nd rfl rfl (DcT.sw_dict rfl (by rfl) (by rfl) (by rfl)) (EnumT.pi_enumT (by rfl) me (pa_cons (pv 1) pa_nil))
          (blkOk_by (own := [("i", 3), ("kind", 4)]) (N := nKbs) (sc := defScope sKbs) (by decide +kernel)) (fun _ _ _ _ _ => pg_tup rfl (pgs_cons (pg_name (i := 3) nd rfl (.inl rfl)) (pgs_cons (pg_name (i := 4) nd rfl (.inl rfl)) pgs_nil))) (fun _ _ _ _ _ => pe_tup (pa_cons pe_str (pa_cons (pv 3) pa_nil))) (fun _ _ _ _ _ => pv 4))
      (pss_cons (ps_for PassesOwn.never rfl (pi_list (pv 2)) (pg_tup rfl (pgs_cons (pg_name (i := 6) nd rfl (.inl rfl)) (pgs_cons (pg_name (i := 7) nd rfl (.inl rfl)) (pgs_cons (pg_name (i := 8) nd rfl (.inl rfl)) pgs_nil))))
        (pss_one (ps_for PassesOwn.never rfl (EnumT.pi_enumT (by rfl) me (pa_cons (pv 8) pa_nil)) (pg_tup rfl (pgs_cons (pg_name (i := 3) nd rfl (.inl rfl)) (pgs_cons (pg_name (i := 4) nd rfl (.inl rfl)) pgs_nil)))
          (pss_one (ps_dput hu1 (pv 5) (pe_tup (pa_cons (pv 6) (pa_cons (pv 3) pa_nil))) (pv 4) rfl)))))
      (pss_one (ps_ret (pv 5))))), ?_⟩
    cases ht with
    | @cons x _ _ _ hx tl =>
    cases tl
    refine Dl.q_tup (F := F) (Dl.var rfl hx) rfl b fun vs F1 H1 s1 hvs => ?_
    cases hvs with
    | @cons v1 _ _ _ hv1 tl =>
    cases tl with
    | @cons v2 _ _ _ hv2 tl =>
    cases tl
    refine ⟨_, _, rfl, _, _, rfl, rfl, ?_⟩
    cases hv1 with
    | @tup r xs _ h1 t1 =>
    cases hv2 with
    | @lst l ys _ h2 t2 =>
    rw [words_str hrs] at t1
    have exs := strs_of t1
    subst exs
    have hyl := t2.length
    have sL := sizeLine_eq
    have zl : ((rs.map strD).map V.str).length = rs.length := by rw [List.length_map, List.length_map]
    -- the roots
    refine Gn.q_any ⟨_, rfl, r, _, rfl, .inl (.inl (s1.i _ _ h1)), fun D hD => ?_⟩
    have fD : F1 D = none := Evl.fresh_back s1.i hD
    have hD0 : H D = none := by
      cases z : H D with
      | none => rfl
      | some o =>
        have y := s1.h D o z
        rw [hD] at y
        cases y
    refine DcT.it_dT (EnumT.walk_enumT (K := K) (a := r) (xs := (rs.map strD).map V.str)) (fun i H' => Dl.Stp F1 H1 F1 H' ∧ H' D = some (.dT (putN [] "" (rs.map strD) i))) ⟨.hid s1.i hD, upd_same⟩ (fun i H' _ hP => .inl (.inl (hP.1.i _ _ h1))) (fun i v H' H'' hi hP hy => ?_) (fun H' hP => ?_)
    · obtain ⟨q1, a1, b1, rfl, hq, rfl, e1, e2⟩ := hy
      cases e1
      rw [zl] at hi
      have e3 : b1 = .str ((rs.map strD).getD i "") := by
        have e2 : ((rs.map strD).map V.str)[i]? = some b1 := e2
        rw [List.getElem?_map, List.getElem?_eq_getElem (by rw [List.length_map]; exact hi)] at e2
        rw [List.getD_eq_getElem?_getD, List.getElem?_eq_getElem (by rw [List.length_map]; exact hi)]
        exact (Option.some.inj e2).symm
      subst e3
      refine ⟨q1, _, rfl, .inl (.inl upd_same), rfl, _, _, rfl, _, _, rfl, rfl, rfl, ?_⟩
      have st1 : Dl.Stp F1 H' F1 _ := .hid (o := .tup [.int (i : Nat), .str ((rs.map strD).getD i "")]) hP.1.i hq
      refine ⟨_, rfl, by show 2 ≤ sizeLine; decide, fun b2 hb2 => ⟨_, rfl, putN [] "" (rs.map strD) i, [.inr "", .inl (i : Int)], b2, rfl, upd_same, ?_⟩⟩
      have st2 := (hP.1.trans st1).trans (.hid (o := .tup [.str "", .int (i : Nat)]) st1.i hb2)
      have hD2 := (Dl.Stp.hid (F := F1) (o := .tup [.str "", .int (i : Nat)]) st1.i hb2).h _ _ (st1.h _ _ hP.2)
      have ln := putN_len (acc := []) (nm := "") (zs := rs.map strD) i
      rw [List.length_nil] at ln
      exact ⟨hD2, by omega, st2.mut hD fD, upd_same⟩
    · obtain ⟨sP, hP⟩ := hP
      rw [zl] at hP
      -- the items
      refine ⟨_, rfl, l, rfl, ⟨ys, .inl (.inl (sP.i _ _ h2))⟩, ?_⟩
      refine for_list (K := K) (a := l) (xs := ys) (fun j σ H' => ∃ y3 y4 y6 y7 y8, σ = [some x, some (.ref r), some (.ref l), y3, y4, some (.ref D), y6, y7, y8] ∧ Dl.Stp F1 H1 F1 H' ∧ H' D = some (.dT (kbsI rs its j)))
        ⟨_, _, _, _, _, rfl, sP, hP⟩ (fun i σ H' _ hP => ?_) (fun j v σ H' hj hP => ?_) (fun σ H' hP => ?_)
      · obtain ⟨y3, y4, y6, y7, y8, rfl, sP, _⟩ := hP
        exact .inl (.inl (sP.i _ _ h2))
      · obtain ⟨y3, y4, y6, y7, y8, rfl, sP, hP⟩ := hP
        obtain ⟨d, hdi, td⟩ := t2.getV hj
        have hd : itemD d = true := List.all_eq_true.mp hits d (List.mem_of_getElem? hdi)
        have jl : j < its.length := (List.getElem?_eq_some_iff.mp hdi).1
        have ed : its.getD j .none = d := by
          rw [List.getD_eq_getElem?_getD, hdi]
          rfl
        obtain ⟨shape, hl4⟩ := item_shape hd
        have nxt : kbsI rs its (j + 1) = putN (kbsI rs its j) (nameD d) (slotsD d) (slotsD d).length := by
          show putN _ (nameD (its.getD j .none)) (slotsD (its.getD j .none)) (slotsD (its.getD j .none)).length = _
          rw [ed]
        have lk := kbsI_len (rs := rs) hits j
        generalize nameD d = nm at shape nxt
        generalize kindD d = kd at shape
        generalize slotsD d = sl at shape nxt hl4
        subst shape
        cases td with
        | @tup bb zs _ g1 u1 =>
        cases u1 with
        | @cons w1 _ _ _ a1 u2 =>
        cases u2 with
        | @cons w2 _ _ _ a2 u3 =>
        cases u3 with
        | @cons w3 _ _ _ a3 u4 =>
        cases u4
        cases a1
        cases a2
        cases a3 with
        | @tup cc us _ g2 u5 =>
        have eus := strs_of u5
        subst eus
        have sll : (sl.map V.str).length = sl.length := List.length_map _
        refine ⟨bb, _, rfl, .inl (.inl (sP.i _ _ g1)), rfl, _, _, rfl, _, _, rfl, _, _, rfl, rfl, ?_⟩
        refine ⟨_, rfl, cc, _, rfl, .inl (.inl (sP.i _ _ g2)), ?_⟩
        refine for_it (EnumT.walk_enumT (K := K) (a := cc) (xs := sl.map V.str)) (fun i σ H' => ∃ y3 y4, σ = [some x, some (.ref r), some (.ref l), y3, y4, some (.ref D), some (.str nm), some (.str kd), some (.ref cc)] ∧ Dl.Stp F1 H1 F1 H' ∧ H' D = some (.dT (putN (kbsI rs its j) nm sl i)))
          ⟨_, _, rfl, sP, hP⟩ (fun i σ H' _ hQ => ?_) (fun i v σ H' H'' hi hQ hy => ?_) (fun σ H' hQ => ?_)
        · obtain ⟨_, _, _, sQ, _⟩ := hQ
          exact .inl (.inl (sQ.i _ _ g2))
        · obtain ⟨z3, z4, rfl, sQ, hQ⟩ := hQ
          obtain ⟨q1, a1, b1, rfl, hq, rfl, e1, e2⟩ := hy
          cases e1
          rw [sll] at hi
          have e3 : b1 = .str (sl.getD i "") := by
            have e2 : (sl.map V.str)[i]? = some b1 := e2
            rw [List.getElem?_map, List.getElem?_eq_getElem hi] at e2
            rw [List.getD_eq_getElem?_getD, List.getElem?_eq_getElem hi]
            exact (Option.some.inj e2).symm
          subst e3
          refine ⟨q1, _, rfl, .inl (.inl upd_same), rfl, _, _, rfl, _, _, rfl, rfl, ?_⟩
          have st1 : Dl.Stp F1 H' F1 _ := .hid (o := .tup [.int (i : Nat), .str (sl.getD i "")]) sQ.i hq
          refine ⟨_, rfl, _, rfl, _, rfl, _, rfl, by show 2 ≤ sizeLine; decide, fun b2 hb2 => ?_⟩
          have st2 := (sQ.trans st1).trans (.hid (o := .tup [.str nm, .int (i : Nat)]) st1.i hb2)
          have hD2 := (Dl.Stp.hid (F := F1) (o := .tup [.str nm, .int (i : Nat)]) st1.i hb2).h _ _ (st1.h _ _ hQ)
          have ln := putN_len (acc := kbsI rs its j) (nm := nm) (zs := sl) i
          refine ⟨D, _, rfl, DPut.t (k := [.inr nm, .inl (i : Int)]) hD2 upd_same (by omega), _, _, rfl, st2.mut hD fD, upd_same⟩
        · obtain ⟨z3, z4, rfl, sQ, hQ⟩ := hQ
          rw [sll] at hQ
          exact ⟨_, _, _, _, _, rfl, sQ, by rw [nxt]; exact hQ⟩
      · obtain ⟨y3, y4, y6, y7, y8, rfl, sP, hP⟩ := hP
        rw [hyl] at hP
        exact ⟨_, rfl, q D F1 H' (s1.trans sP) fD hD0 hP⟩
end
end Lw
set_option Elab.async false
set_option linter.all false
set_option maxRecDepth 100000
set_option maxHeartbeats 4000000
namespace Dl
open PySem PySem.Spec PyProof.Rows L2
def isInt : D → Bool
  | .bool _ => true
  | .int _ => true
  | _ => false
theorem kitInt (d : D) : kitB (tyD d) "int" = some (isInt d) := by
  cases d
  · exact (by decide +kernel : kitB "NoneType" "int" = some false)
  · exact (by decide +kernel : kitB "bool" "int" = some true)
  · exact (by decide +kernel : kitB "int" "int" = some true)
  · exact (by decide +kernel : kitB "str" "int" = some false)
  · exact (by decide +kernel : kitB "list" "int" = some false)
  · exact (by decide +kernel : kitB "tuple" "int" = some false)
  · exact (by decide +kernel : kitB "dict" "int" = some false)
end Dl
namespace Lw
open PySem PySem.Spec PyProof.Rows L2
/-- the kinds of the items, by name -/
def kbnI (its : List PyData) : Nat → List (Key × V)
  | 0 => []
  | j + 1 => putK (kbnI its j) (.inr (nameD (its.getD j .none))) (.str (kindD (its.getD j .none)))
def kbn (its : List PyData) : List (Key × V) := kbnI its its.length
theorem kbnI_len {its : List PyData} : ∀ j, (kbnI its j).length ≤ j
  | 0 => Nat.le_refl _
  | j + 1 => by
    have a := kbnI_len (its := its) j
    have b := length_putK (kbnI its j) (.inr (nameD (its.getD j .none))) (.str (kindD (its.getD j .none)))
    show (putK _ _ _).length ≤ _
    omega
theorem kbnI_ok {rs its : List PyData} : ∀ j, j ≤ its.length → ∀ kv ∈ kbnI its j, ∃ z ∈ kindsS rs its, kv.2 = .str z
  | 0, _, kv, h => by cases h
  | j + 1, le, kv, h => by
    have new : kindD (its.getD j .none) ∈ kindsS rs its := by
      refine List.mem_append_right _ (List.mem_flatMap.mpr ⟨its.getD j .none, ?_, List.mem_cons_self⟩)
      rw [List.getD_eq_getElem?_getD, List.getElem?_eq_getElem (show j < its.length by omega)]
      exact List.getElem_mem _
    have h : kv ∈ putK (kbnI its j) (.inr (nameD (its.getD j .none))) (.str (kindD (its.getD j .none))) := h
    unfold putK at h
    split at h
    · obtain ⟨x, hx, rfl⟩ := List.mem_map.mp h
      by_cases e : x.1 = .inr (nameD (its.getD j .none))
      · rw [if_pos e]
        exact ⟨_, new, rfl⟩
      · rw [if_neg e]
        exact kbnI_ok j (by omega) x hx
    · rcases List.mem_append.mp h with z | z
      · exact kbnI_ok j (by omega) kv z
      · rw [List.mem_singleton.mp z]
        exact ⟨_, new, rfl⟩
abbrev sKbn : Stmt := topS 18
theorem scKbn : FnScope ["inventory", "item"] ["inventory"] (defScope sKbn) := ⟨rfl, rfl, rfl, by decide +kernel, rfl, by decide +kernel, by decide +kernel⟩
abbrev spKbn : Sp := fun vs H Q _ => ∃ F rs its, Evl.Ex F H ∧ Dl.TlAll F vs [.tuple [.tuple rs, .list its]] ∧ okInv rs its ∧ ∀ d F' H', Dl.Stp F H F' H' → F' d = none → H d = none → H' d = some (.dK (kbn its)) → Q (.ref d) H'
/-- a tuple of a text and a number -/
def isSlotD : PyData → Bool
  | .tuple [o, i] => Dl.isStr o && (Dl.isInt i && !Dl.isBool i)
  | _ => false
abbrev sSlot : Stmt := topS 20
theorem scSlot : FnScope ["value", "owner", "index"] ["value"] (defScope sSlot) := ⟨rfl, rfl, rfl, by decide +kernel, rfl, by decide +kernel, by decide +kernel⟩
abbrev spSlot : Sp := Dl.spF (fun ds => ∃ d, ds = [d] ∧ Dl.fit d = true) fun ds => .bool (isSlotD (ds.getD 0 .none))
end Lw
namespace Lw
open PySem PySem.Spec PyProof.Rows L2
section
variable {P : Program} {w : World} {K : PySem.W.Frag} {mg : Str → Option Value} {base : Heap}
theorem ok_kbn {f : Addr} {fd : FuncData} (F : Fun K "kinds_by_name" "kinds_by_name" sKbn f fd) : FnOk P w K mg base CX0 1 f fd ["inventory"] spKbn := by
  refine F.ok scKbn (fun vs H Q E h => ?_) (fun cdv A outer s H vs Q E hr h => ?_)
  · obtain ⟨F, rs, its, _, ht, _⟩ := h
    exact ht.length
  · obtain ⟨F, rs, its, b, ht, ⟨hrs, hrl, hits, hil⟩, q⟩ := h
    have nd := scKbn.nd
    refine ⟨_, pss_one (ps_ret (pe_dc (own := [("item", 1)]) (g := gName 1) (tt := tYes) (tk := tOp (rIxT K) (tVar 1) (tC (.int 0))) (tv := tOp (rIxT K) (tVar 1) (tC (.int 1))) rfl nd (pi_list (pe_ix ix_tup (pv 0) pe_int (fun _ _ => rfl)))
          (blkOk_by (own := [("item", 1)]) (N := ["inventory", "item"]) (sc := defScope sKbn) (by decide +kernel)) (fun _ _ _ _ _ => pg_name (i := 1) nd rfl (.inl rfl)) (fun _ _ _ _ _ => pts_nil) (fun _ _ _ _ _ => pe_ix ix_tup (pv 1) pe_int (fun _ _ => rfl)) (fun _ _ _ _ _ => pe_ix ix_tup (pv 1) pe_int (fun _ _ => rfl)))), ?_⟩
    cases ht with
    | @cons x _ _ _ hx tl =>
    cases tl
    have hx' := hx
    cases hx' with
    | @tup a xs _ g0 t0 =>
    cases t0 with
    | @cons w1 _ _ _ a1 u2 =>
    cases u2 with
    | @cons w2 _ _ _ a2 u3 =>
    cases u3
    cases a2 with
    | @lst l ys _ h2 t2 =>
    have hyl := t2.length
    have sL := sizeLine_eq
    refine ⟨_, rfl, a, _, 1, _, rfl, rfl, .inl (.inl (b _ _ g0)), rfl, l, rfl, ⟨ys, .inl (.inl (b _ _ h2))⟩, fun D hD => ?_⟩
    have fD : F D = none := Evl.fresh_back b hD
    refine DcT.it_dK (walk_list (K := K) (a := l) (xs := ys)) (fun j H' => Dl.Stp F H F H' ∧ H' D = some (.dK (kbnI its j))) ⟨.hid b hD, upd_same⟩ (fun i H' _ hP => .inl (.inl (hP.1.i _ _ h2))) (fun j v H' H'' hj hP hy => ?_) (fun H' hP => ?_)
    · obtain ⟨rfl, hv⟩ := hy
      obtain ⟨sP, hP⟩ := hP
      obtain ⟨d, hdi, td⟩ := t2.getV hv
      have hd : itemD d = true := List.all_eq_true.mp hits d (List.mem_of_getElem? hdi)
      have jl : j < its.length := (List.getElem?_eq_some_iff.mp hdi).1
      have ed : its.getD j .none = d := by
        rw [List.getD_eq_getElem?_getD, hdi]
        rfl
      obtain ⟨shape, _⟩ := item_shape hd
      have nxt : kbnI its (j + 1) = putK (kbnI its j) (Sum.inr (nameD d) : Key) (.str (kindD d)) := by
        show putK _ (Sum.inr (nameD (its.getD j .none)) : Key) (.str (kindD (its.getD j .none))) = _
        rw [ed]
      have lk := kbnI_len (its := its) j
      generalize nameD d = nm at shape nxt
      generalize kindD d = kd at shape nxt
      generalize slotsD d = sl at shape
      subst shape
      cases td with
      | @tup bb zs _ g1 u1 =>
      cases u1 with
      | @cons w1 _ _ _ a1 u2 =>
      cases u2 with
      | @cons w2 _ _ _ a2 u3 =>
      cases u3 with
      | @cons w3 _ _ _ a3 u4 =>
      cases u4
      cases a1
      cases a2
      have gb := sP.i _ _ g1
      refine ⟨rfl, Gn.yes_in (te := fun σ H Q => tOp (rIxT K) (tVar 1) (tC (.int 0)) σ H Q) ?_⟩
      refine ⟨_, rfl, bb, _, 0, _, rfl, rfl, .inl (.inl gb), rfl, _, rfl, bb, _, 1, _, rfl, rfl, .inl (.inl gb), rfl, kbnI its j, .inr nm, rfl, hP, by omega, sP.mut hD fD, ?_⟩
      rw [nxt]
      exact upd_same
    · obtain ⟨sP, hP⟩ := hP
      rw [hyl] at hP
      exact q D F H' sP fD hD hP
theorem ok_slot {f : Addr} {fd : FuncData} (F : Fun K "is_slot" "is_slot" sSlot f fd) (mi : mg "isinstance" = none) (mt : mg "tuple" = none) (ml : mg "len" = none) (ms : mg "str" = none) (mint : mg "int" = none) (mb : mg "bool" = none) :
    FnOk P w K mg base CX0 1 f fd ["value"] spSlot := by
  refine F.ok scSlot (fun vs H Q E h => ?_) (fun cdv A outer s H vs Q E hr h => ?_)
  · obtain ⟨F, ds, _, ht, ⟨d, rfl, _⟩, _⟩ := h
    exact ht.length
  · obtain ⟨F, ds, b, ht, ⟨d, rfl, hd⟩, q⟩ := h
    have nd := scSlot.nd
    refine ⟨_, pss_cons (ps_if (PW.pt (pw_or (pt_not (pt_val (pe_callB call_isi (by rfl) mi (by decide +kernel) (pa_cons (pv 0) (pa_cons (pe_bltn (v := .ty "tuple") (by rfl) mt (by decide +kernel) rfl) pa_nil)))))
        (pw_or1 (pt_cmpR (op_neD hr.units) (pe_callB call_len (by rfl) ml PySem.boot_len (pa_cons (pv 0) pa_nil)) pe_int (nomark _))))) (pss_one (ps_ret pe_bl)) pss_nil)
      (pss_cons (ps_asg (pv 0) (pg_tup rfl (pgs_cons (pg_name (i := 1) nd rfl (.inl rfl)) (pgs_cons (pg_name (i := 2) nd rfl (.inl rfl)) pgs_nil))))
      (pss_one (ps_ret (pe_and (pe_callB call_isi (by rfl) mi (by decide +kernel) (pa_cons (pv 1) (pa_cons (pe_bltn (v := .ty "str") (by rfl) ms (by decide +kernel) rfl) pa_nil)))
        (pe_and (pe_callB call_isi (by rfl) mi (by decide +kernel) (pa_cons (pv 2) (pa_cons (pe_bltn (v := .ty "int") (by rfl) mint (by decide +kernel) rfl) pa_nil)))
          (pe_one (pe_not (pe_callB call_isi (by rfl) mi (by decide +kernel) (pa_cons (pv 2) (pa_cons (pe_bltn (v := .ty "bool") (by rfl) mb (by decide +kernel) rfl) pa_nil)))))))))), ?_⟩
    cases ht with
    | @cons x _ _ _ hx tl =>
    cases tl
    have fin : ∀ e, isSlotD d = e → ∀ y F' H', Dl.Stp F H F' H' → Dl.Tl F' y (.bool e) → Q y H' := fun e he y F' H' st t => q y F' H' st (by
      show Dl.Tl F' y (.bool (isSlotD d))
      rw [he]
      exact t)
    clear q
    cases hz : Dl.isTup d with
    | false =>
      refine Dl.q_when (F := F) (c := true) (Dl.tis (Dl.tor (Dl.tnot (Dl.testB (Dl.isi (Dl.var rfl hx) (Dl.kitTup d)))) (fun z => ?_) (b := false)) (by rw [hz]; rfl)) b (fun _ F1 H1 s1 => ?_) (fun z => Bool.noConfusion z)
      · rw [hz] at z
        cases z
      · refine Dl.s_ret (F := F1) Dl.bl s1.i fun y F2 H2 s2 t2 => fin _ ?_ y F2 H2 (s1.trans s2) t2
        cases d <;> first | rfl | cases hz
    | true =>
      cases d <;> try cases hz
      rename_i xs
      refine Dl.q_when (F := F) (c := !(decide ((xs.length : Int) = 2))) (Dl.tis (Dl.tor (Dl.tnot (Dl.testB (Dl.isi (Dl.var rfl hx) (Dl.kitTup _)))) (fun _ => Dl.test (Dl.op (Dl.call (Dl.cons (Dl.var rfl hx) Dl.nil) (Dl.len (n := xs.length) rfl)) Dl.int (Dl.neD (int_shaped _) (int_shaped _))))) (by
          simp only [PyData.eqv, Dl.isTup, Bool.not_true, Bool.false_or]
          exact congrArg Bool.not (by rw [Bool.eq_iff_iff, beq_iff_eq, decide_eq_true_iff]))) b (fun hc F1 H1 s1 => ?_) (fun hc F1 H1 s1 => ?_)
      · have h2 : ¬ xs.length = 2 := by
          intro z
          rw [z] at hc
          cases hc
        refine Dl.s_ret (F := F1) Dl.bl s1.i fun y F2 H2 s2 t2 => fin _ ?_ y F2 H2 (s1.trans s2) t2
        match xs, h2 with
        | [], _ => rfl
        | [_], _ => rfl
        | [_, _], h => exact absurd rfl h
        | _ :: _ :: _ :: _, _ => rfl
      · have h2 : xs.length = 2 := by
          rw [Bool.not_eq_false'] at hc
          have z := of_decide_eq_true hc
          omega
        obtain ⟨o, i, rfl⟩ : ∃ o i, xs = [o, i] := by
          match xs, h2 with
          | [a, b], _ => exact ⟨a, b, rfl⟩
        refine Dl.q_tup (F := F1) (Dl.var rfl (hx.mono s1.f)) rfl s1.i fun vs F2 H2 s2 hvs => ?_
        cases hvs with
        | @cons v1 _ _ _ hv1 tl =>
        cases tl with
        | @cons v2 _ _ _ hv2 tl =>
        cases tl
        refine ⟨_, _, rfl, _, _, rfl, rfl, ?_⟩
        refine Dl.s_ret (F := F2) (Dl.andV (Dl.isi (Dl.var rfl hv1) (Dl.kitStr o)) (fun _ => Dl.andV (Dl.isi (Dl.var rfl hv2) (Dl.kitInt i)) (fun _ => Dl.notV (Dl.isi (Dl.var rfl hv2) (Dl.kitBool i))))) s2.i fun y F3 H3 s3 t3 => fin _ ?_ y F3 H3 ((s1.trans s2).trans s3) t3
        rfl
end
end Lw
set_option Elab.async false
set_option linter.all false
set_option maxRecDepth 100000
set_option maxHeartbeats 4000000
/-! try: body / except c as n: y = n, where every error of the body is one of c; behind it y holds the error, which is tracked from there on -/
namespace KeepX
open PySem PySem.Spec PyProof.Rows L2
/-- a caught exception: its class and its dict -/
def exk (a D : Addr) (d : Option Addr) : HO := .ext fun g => ∃ oe vs, g.get? a = some oe ∧ oe.cls = .ref D ∧ oe.dict = d ∧ oe.data = .fields vs
theorem exk_ok {P : Program} {w : World} {H : Hp} {g : Heap} {a D : Addr} {d : Option Addr} {oe : Obj} {vs : Array Value} (e : g.get? a = some oe) (c : oe.cls = .ref D) (dd : oe.dict = d) (f : oe.data = .fields vs) : ObjOk P w H g a (exk a D d) :=
  ⟨⟨oe, vs, e, c, dd, f⟩, ⟨oe, e⟩, fun g1 g2 z k => by
    obtain ⟨o, us, q1, q2, q3, q4⟩ := z
    exact ⟨o, us, k _ q1, q2, q3, q4⟩⟩
theorem exk_at {P : Program} {w : World} {H : Hp} {g : Heap} {a D : Addr} {d : Option Addr} (ok : HOk P w H g) (e : H a = some (exk a D d)) : ∃ oe vs, g.get? a = some oe ∧ oe.cls = .ref D ∧ oe.dict = d ∧ oe.data = .fields vs := by
  have z : ObjOk P w H g a (.ext fun g => ∃ oe vs, g.get? a = some oe ∧ oe.cls = .ref D ∧ oe.dict = d ∧ oe.data = .fields vs) := ok a _ e
  exact z.1
section
variable {X : Cx} {pins : List (Addr × Obj)} {σ : L2.St} {H : Hp} {s : Shared} {a D : Addr} {o : HO}
/-- an object that came into being during this call is tracked from now on -/
theorem track (I : Inv X pins σ H s) (new : X.s_0.heap.get? a = none) (free : H a = none) (nl : a ≠ X.env.locals) (nc : ∀ z c, X.env.cells.lookup z = some c → c ≠ a) (np : ∀ p ∈ X.pn ++ pins, p.1 ≠ a) (ok : ObjOk X.prog X.w (upd H a o) s.heap a o) : Inv X pins σ (upd H a o) s where
  ok := I.ok
  os := I.os
  bare := I.bare
  base := {
    keep := I.base.keep
    slot := I.base.slot
    free := fun b u e n hx => by
      have ne : b ≠ a := fun z => by
        rw [z, new] at e
        cases e
      rw [upd_ne ne]
      exact I.base.free b u e n hx
    there := I.base.there
    tups := fun b us e => by
      have q := I.base.tups b us e
      rw [upd_ne (ne_of_none q free)]
      exact q
    frzs := fun b u us e => by
      have q := I.base.frzs b u us e
      rw [upd_ne (ne_of_none q free)]
      exact q
    tbls := fun b us e => by
      obtain ⟨more, q⟩ := I.base.tbls b us e
      exact ⟨more, by rw [upd_ne (ne_of_none q free)]; exact q⟩ }
  loc := I.loc
  cell := I.cell
  free := by
    rw [upd_ne (Ne.symm nl)]
    exact I.free
  freeC := fun z c e => by
    rw [upd_ne (nc z c e)]
    exact I.freeC z c e
  pin := fun p hp => by
    obtain ⟨p1, p2, p3⟩ := I.pin p hp
    refine ⟨p1, ?_, p3⟩
    rw [upd_ne (np p hp)]
    exact p2
  hok := I.hok.laidN (fun _ _ e => e) free ok
  len := I.len
/-- what the clause wishes -/
def wKeep (K : PySem.W.Frag) (c : Value) (i j : Nat) (E : Ends) : WX := fun cls d σ H => ∃ D, cls = .ref D ∧ PySem.W.exmOne K cls c = some true ∧ ∀ a, H a = none → E.nx (((σ.set i (some (.ref a))).set j (some (.ref a))).set i none) (upd H a (exk a D d))
theorem ps_try_keep {x n y : Str} {c : Value} {i j : Nat} {body : List Stmt} {np p1 p2 p3 q1 q2 : Pos} {tb : WX → TS} (hs : X.stack = X.env :: X.outer) (hf : X.env.frame = some X.env.locals) (hN : X.N.Nodup) (hi : X.N[i]? = some n) (hln : X.env.kindOf n = some .local) (hj : X.N[j]? = some y) (hly : X.env.scope.names.lookup y = some .local)
    (hc : Names X x c) (hex : X.ex = []) (hb : ∀ (W : WX) (pn : List (Addr × Obj)) (xe : Value → Shared → Prop), Takes (X.tr pn xe) W → PassesOwn (model X.prog X.w) X.A X.env xe → PSs (X.tr pn xe) body (tb W))
    (hd : (n == ("__debug__" : Str)) = false := by decide) (hcd : (n == ("__classdict__" : Str)) = false := by decide) (hsw : swapsWith (.Name n p1) (some (.Name y p2)) p3.line X.env = pure false := by rfl) :
    PS X (.Try body [.ExceptHandler (some (.Name x np)) (some n) [.Assign [.Name y p2] (.Name n p1) p3] q1] [] [] q2) (fun E σ H => tb (wKeep X.K c i j E) E σ H) := by
  refine ⟨fun pins s σ H E I h => ?_⟩
  have ok := I.ok
  have frm : X.A.frames = some (X.env :: X.outer) := by rw [ok.frames, hs]
  refine wpAny_Try_except (wpAny_mono ((hb (wKeep X.K c i j E) (X.pn ++ pins) (fun e t1 => wpAny (model X.prog X.w) X.A (noteFrame e X.env) (fun _ t2 => wpAny (model X.prog X.w) X.A (setFlight e none) (fun _ t3 => wpAny (model X.prog X.w) X.A (handleBy e X.env [.ExceptHandler (some (.Name x np)) (some n) [.Assign [.Name y p2] (.Name n p1) p3] q1]) (SP X pins E) X.xe t3) X.xe t2) X.xe t1) (fun u s' xx => ?_) PassesOwn.looking).run [] s σ H E (I.toTry _) h) (fun f t1 back => ?_) (fun e t1 he => he))
  · obtain ⟨a, B, sI, pins2, σ2, H2, cls, d, rfl, J0, ground, up, sky, fresh, hos, gens, D, rfl, match_, want⟩ := xx
    have J : Inv X pins σ2 H2 sI := J0.ofTry ok
    rw [hs] at sky
    show wpAny (model X.prog X.w) X.A (noteFrame (.ref a) X.env) _ _ _
    refine Sky.land Zc.steady frm hf sky fun g1 fl1 up1 => ?_
    have J1 : Inv X pins σ2 H2 { s' with heap := g1 } := J.landed ground fl1.1 (up.trans up1) hos gens
    obtain ⟨oe1, vs1, at1, cl1, dat1⟩ := fl1.there
    -- the error is no frame
    have noFrame : a ∉ frs (X.env :: X.outer) := fun hm => by
      obtain ⟨_, o2, e2, nf⟩ := fl1.2.2.1.mem hm
      rw [at1] at e2
      cases e2
      exact nf _ dat1
    have nl : a ≠ X.env.locals := fun z => noFrame (List.mem_filterMap.mpr ⟨X.env, List.mem_cons_self, by rw [hf, z]⟩)
    have nfs : a ∉ X.fs := fun hm => by
      obtain ⟨v, hv, e⟩ := List.mem_filterMap.mp hm
      exact noFrame (List.mem_filterMap.mpr ⟨v, List.mem_cons_of_mem _ hv, e⟩)
    -- it was not there before
    have notI : sI.heap.get? a = none := by
      cases z : sI.heap.get? a with
      | none => rfl
      | some o2 =>
        have y := ground a o2 z (by rw [hs]; exact noFrame)
        rw [fl1.2.1] at y
        cases y
    have new0 : X.s_0.heap.get? a = none := by
      cases z : X.s_0.heap.get? a with
      | none => rfl
      | some o2 =>
        obtain ⟨o3, y⟩ := J.base.there a o2 z (by rw [hex]; exact List.not_mem_nil)
        rw [notI] at y
        cases y
    have nq : ∀ p ∈ X.pn ++ pins, p.1 ≠ a := fun p hp z => by
      have y := (J.pin p hp).1
      rw [z, notI] at y
      cases y
    have S1 := J1.suite at1 dat1 fresh nl nfs
    refine wpAny_handleBy_cons (codeAny_handlers_test ?_) (by intro q; cases q)
    have tyA : PySem.W.Looks (model X.prog X.w) g1 (typeOf (.ref a)) (.ref D) := fun A Q E2 t k q => wpAny_typeOf_ref (k _ _ at1) (by rw [cl1.1]; exact q)
    have hit := PySem.W.exm_one (M := model X.prog X.w) J1.kIn tyA match_
    have named : ∀ {Q : Value → Shared → Prop} {E2 : Value → Shared → Prop}, Q c { s' with heap := g1 } → wpAny (model X.prog X.w) (X.A.mark (some (.ref a))) (eval (.Name x np) X.env) Q E2 { s' with heap := g1 } := fun {Q E2} q => by
      obtain ⟨hg, hdb, w1 | ⟨w1, w2, w3⟩⟩ := hc
      · exact ld_glob (X := X.suite a ((a, oe1) :: (X.pn ++ pins))) S1 hg w1 q hdb
      · exact ld_blt (X := X.suite a ((a, oe1) :: (X.pn ++ pins))) S1 hg w1 w2 q w3 hdb
    refine named (hit.here (codeAny_handlers_suite_as (HandSPX.lands_againZ fl1 fun g2 fl2 up2 => ?_)))
    have J2 : Inv X pins σ2 H2 { s' with heap := g2 } := J.landed ground fl2.1 ((up.trans up1).trans up2) hos gens
    obtain ⟨oe2, vs2, at2, cl2, dat2⟩ := fl2.there
    have S2 := J2.suite at2 dat2 fresh nl nfs
    refine store_ok (X := X.suite a ((a, oe2) :: (X.pn ++ pins))) (v := .ref a) S2 hN hi (.inl hln) rfl (fun s5 S5 => ?_) (.inr hln)
    have il : i < σ2.length := by
      rw [J.len]
      exact (List.getElem?_eq_some_iff.mp hi).1
    have copy : PSs (X.suite a ((a, oe2) :: (X.pn ++ pins))) [.Assign [.Name y p2] (.Name n p1) p3] (tAsg (tVar i) (gName j)) := pss_one (ps_set (i := j) hN hj (.inl hly) (pe_var hi (.inl hln) hd hcd) hsw (.inr hly))
    refine wpAny_mono (copy.run [] s5 _ H2 { nx := fun σ6 H6 => σ6 = (σ2.set i (some (.ref a))).set j (some (.ref a)) ∧ H6 = H2, rt := fun _ _ => False } S5 ⟨_, List.getElem?_set_self il, rfl, rfl⟩) (fun f s6 hsp => ?_) (fun _ _ z => False.elim z)
    cases f with
    | next =>
      obtain ⟨σ6, H6, S6, rfl, rfl⟩ := hsp
      refine gone_ok (X := X.suite a ((a, oe2) :: (X.pn ++ pins))) S6 hN hi hln fun s7 S7 => ?_
      have J7 := S7.unsuite ok
      have at7 : s7.heap.get? a = some oe2 := (S7.pin (a, oe2) (List.mem_append_left _ List.mem_cons_self)).1
      have nc : ∀ z e, X.env.cells.lookup z = some e → e ≠ a := fun z e he w => by
        obtain ⟨v, o2, y1, y2⟩ := J7.cell z e he
        rw [w, at7] at y1
        cases y1
        rw [dat2] at y2
        cases y2
      exact ⟨_, _, track J7 new0 fresh nl nc nq (exk_ok at7 cl2.1 cl2.2 dat2), want a fresh⟩
    | brk => 
      obtain ⟨_, _, _, z⟩ := hsp
      exact False.elim z
    | cont =>
      obtain ⟨_, _, _, z⟩ := hsp
      exact False.elim z
    | ret u =>
      obtain ⟨_, _, _, _, _, z⟩ := hsp
      exact False.elim z
  · cases f with
    | next =>
      obtain ⟨σ2, H2, J2, q⟩ := back
      exact wpAny_execs_nil ⟨σ2, H2, J2.ofTry ok, q⟩
    | brk =>
      obtain ⟨σ2, H2, J2, q⟩ := back
      exact ⟨σ2, H2, J2.ofTry ok, q⟩
    | cont =>
      obtain ⟨σ2, H2, J2, q⟩ := back
      exact ⟨σ2, H2, J2.ofTry ok, q⟩
    | ret u =>
      obtain ⟨v, σ2, H2, J2, r, q⟩ := back
      exact ⟨v, σ2, H2, J2.ofTry ok, r, q⟩
end
end KeepX
set_option Elab.async false
set_option linter.all false
set_option maxRecDepth 100000
set_option maxHeartbeats 4000000
namespace Lw
open PySem PySem.Spec PyProof.Rows L2 ExV
abbrev veT : List Value := [.type "ValueError", .type "Exception", .type "BaseException", .type "object"]
/-- what the written part says of an error class at c, its chain behind it tl -/
structure ClsF (K : PySem.W.Frag) (name : Str) (c : Addr) (tl : List Value) : Prop where
  gl : PySem.W.nsIn K mainGlobals name = some (some (.ref c))
  xL : ∃ nm q N bs sn sub ab col dd k0 k1 k2 k3 k5, K.lookup c = some (excClassObj nm q c N bs tl true sn sub ab col dd k0 k1 k2 k3 k5 "ValueError.__new__")
  sa : PySem.W.findIn K (.ref c) "__setattr__" = some (some (.builtin "object.__setattr__"))
  ga : PySem.W.findIn K (.ref c) "__getattribute__" = some (some (.builtin "BaseException.__getattribute__"))
  gg : PySem.W.findIn K (.ref c) "__getattr__" = some none
  ha : PySem.W.findIn K (.ref c) "__class__" = some (some (.builtin "object.__class__"))
  tC : PySem.W.typeIn K (.ref c) = some (.type "type")
  kC : PySem.W.keepIn K (.ref c) = true
/-- of its own __init__, at f, the statement st, storing under n -/
structure IniF (K : PySem.W.Frag) (q : Str) (st : Stmt) (n : Str) (c f : Addr) : Prop where
  nf : PySem.W.findIn K (.ref c) n = some none
  iC : PySem.W.findIn K (.ref c) "__init__" = some (some (.ref f))
  tI : PySem.W.typeIn K (.ref f) = some (.type "function")
  kI : PySem.W.keepIn K (.ref f) = true
  fn : ∃ oc od kV doc pm an cd ct sl, K.lookup f = some ⟨oc, od, .func (PySem.W.fnOf "__init__" q (defArgs st) (defBody st) (defScope st) .none kV doc pm an cd ct), sl⟩ ∧ PySem.W.codeIn K cd q = true
/-- of a def of the text -/
structure DefF (K : PySem.W.Frag) (x : Str) (st : Stmt) (f : Addr) : Prop where
  gl : PySem.W.nsIn K mainGlobals x = some (some (.ref f))
  kp : PySem.W.keepIn K (.ref f) = true
  fn : ∃ oc od kV doc pm an cd ct sl, K.lookup f = some ⟨oc, od, .func (PySem.W.fnOf x x (defArgs st) (defBody st) (defScope st) .none kV doc pm an cd ct), sl⟩ ∧ PySem.W.codeIn K cd x = true
theorem ClsF.of {K : PySem.W.Frag} {name : Str} {c : Addr} {tl : List Value} {nm q : Str} {N : Addr} {bs : List Value} {sn : List Str} {sub : List Value} {ab : Bool} {col : Option Bool} {dd : Option Addr} {k0 k1 k2 k3 k5 : Option Value}
    (gl : PySem.W.nsIn K mainGlobals name = some (some (.ref c))) (xL : K.lookup c = some (excClassObj nm q c N bs tl true sn sub ab col dd k0 k1 k2 k3 k5 "ValueError.__new__"))
    (sa : PySem.W.findIn K (.ref c) "__setattr__" = some (some (.builtin "object.__setattr__"))) (ga : PySem.W.findIn K (.ref c) "__getattribute__" = some (some (.builtin "BaseException.__getattribute__"))) (gg : PySem.W.findIn K (.ref c) "__getattr__" = some none)
    (ha : PySem.W.findIn K (.ref c) "__class__" = some (some (.builtin "object.__class__"))) (tC : PySem.W.typeIn K (.ref c) = some (.type "type")) (kC : PySem.W.keepIn K (.ref c) = true) : ClsF K name c tl := ⟨gl, ⟨_, _, _, _, _, _, _, _, _, _, _, _, _, _, xL⟩, sa, ga, gg, ha, tC, kC⟩
theorem IniF.of {K : PySem.W.Frag} {q : Str} {st : Stmt} {n : Str} {c f : Addr} {oc : Value} {od : Option Addr} {kV doc pm : Value} {an : Option Addr} {cd ct : Value} {sl : Array (Option Value)} (iC : PySem.W.findIn K (.ref c) "__init__" = some (some (.ref f)))
    (nf : PySem.W.findIn K (.ref c) n = some none) (tI : PySem.W.typeIn K (.ref f) = some (.type "function")) (kI : PySem.W.keepIn K (.ref f) = true)
    (l : K.lookup f = some ⟨oc, od, .func (PySem.W.fnOf "__init__" q (defArgs st) (defBody st) (defScope st) .none kV doc pm an cd ct), sl⟩) (cc : PySem.W.codeIn K cd q = true) : IniF K q st n c f := ⟨nf, iC, tI, kI, _, _, _, _, _, _, _, _, _, l, cc⟩
theorem DefF.of {K : PySem.W.Frag} {x : Str} {st : Stmt} {f : Addr} {oc : Value} {od : Option Addr} {kV doc pm : Value} {an : Option Addr} {cd ct : Value} {sl : Array (Option Value)} (gl : PySem.W.nsIn K mainGlobals x = some (some (.ref f))) (kp : PySem.W.keepIn K (.ref f) = true)
    (l : K.lookup f = some ⟨oc, od, .func (PySem.W.fnOf x x (defArgs st) (defBody st) (defScope st) .none kV doc pm an cd ct), sl⟩) (cc : PySem.W.codeIn K cd x = true) : DefF K x st f := ⟨gl, kp, _, _, _, _, _, _, _, _, _, l, cc⟩
section
variable {K : PySem.W.Frag} {n : Str} {c d : Addr} {tl : List Value}
theorem ClsF.cls (z : ClsF K n c tl) : ∃ cd, PySem.W.clsIn K c = some cd ∧ cd.mro = .ref c :: tl ∧ cd.hasDict = true := by
  obtain ⟨nm, q, N, bs, sn, sub, ab, col, dd, k0, k1, k2, k3, k5, h⟩ := z.xL
  refine ⟨{ name := nm, bases := bs, mro := .ref c :: tl, ns := N, qualname := q, hasDict := true, slotNames := sn, subclasses := sub, abstract := ab, collection := col, hasDel := false }, ?_, rfl, rfl⟩
  unfold PySem.W.clsIn
  rw [h] <;> rfl
theorem ClsF.mro (z : ClsF K n c tl) (v : Value) : PySem.W.mroIn K c v = some ((Value.ref c :: tl).contains v) := by
  obtain ⟨cd, h1, h2, _⟩ := z.cls
  unfold PySem.W.mroIn
  rw [h1, Option.bind_some, h2]
  rfl
theorem ClsF.hd (z : ClsF K n c tl) : PySem.W.hasDictIn K c = true := by
  obtain ⟨cd, h1, _, h3⟩ := z.cls
  unfold PySem.W.hasDictIn
  rw [h1]
  exact h3
theorem ClsF.exc (z : ClsF K n c tl) (hb : tl.contains (.type "BaseException") = true) (ho : tl.contains (.type "object") = true) (hn : PySem.W.specialIn K (.builtin "object.__class__") "__get__" = some (some (.builtin "getset_descriptor.__get__"))) (ht : PySem.W.takesIn K (.builtin "object.__class__") = some true) : ExcC K c where
  hg := z.ga
  hk := z.gg
  hs := by
    show PySem.W.mroIn K c _ = _
    rw [z.mro, List.contains_cons, hb, Bool.or_true]
  hd := z.hd
  ha := z.ha
  hn := hn
  ht := ht
  hm := by rw [z.mro, List.contains_cons, ho, Bool.or_true]
theorem ClsF.xf (z : ClsF K n c tl) (hb : tl.contains (.type "BaseException") = true) : XfC K c := ⟨z.ga, z.gg, by
    show PySem.W.mroIn K c _ = _
    rw [z.mro, List.contains_cons, hb, Bool.or_true], z.hd⟩
theorem ClsF.oex (z : ClsF K n c tl) (hb : tl.contains (.type "BaseException") = true) (hv : PySem.HandSPX.refsVE tl = true) : OexC K c where
  cls := by
    obtain ⟨nm, q, N, bs, sn, sub, ab, col, dd, k0, k1, k2, k3, k5, h⟩ := z.xL
    exact ⟨nm, q, N, bs, tl, sn, sub, ab, col, dd, k0, k1, k2, k3, k5, h, hv⟩
  sa := z.sa
  exC := by
    show PySem.W.mroIn K c _ = _
    rw [z.mro, List.contains_cons, hb, Bool.or_true]
  tyC := z.tC
  kC := z.kC
theorem ClsF.kit {m : Str} {tm : List Value} (z : ClsF K n c tl) (y : ClsF K m d tm) : PySem.W.kitOne K (.ref c) (.ref d) = some (decide (c = d) || tl.contains (.ref d)) := by
  obtain ⟨cd, h1, _⟩ := y.cls
  unfold PySem.W.kitOne
  by_cases e : c = d
  · subst e
    rw [if_pos (by simp), decide_eq_true rfl, Bool.true_or]
  · have e1 : (Value.ref c == Value.ref d) = false := by simpa using e
    have e2 : (Value.ref d == Value.ref c) = false := by simpa using Ne.symm e
    rw [e1, if_neg Bool.false_ne_true, decide_eq_false e, Bool.false_or]
    show (if ((PySem.W.clsIn K d).isSome && PySem.W.typeIn K (.ref d) == some (.type "type")) = true then PySem.W.subIn K (.ref c) (.ref d) else none) = _
    rw [if_pos (by rw [h1, y.tC]; rfl)]
    show PySem.W.mroIn K c _ = _
    rw [z.mro, List.contains_cons, e2, Bool.false_or]
theorem ClsF.kitV (z : ClsF K n c tl) (hv : tl.contains (.type "ValueError") = true) : PySem.W.kitOne K (.ref c) (.type "ValueError") = some true := by
  unfold PySem.W.kitOne
  rw [if_neg (by simp)]
  show (if PySem.W.kitMeta "ValueError" = true then PySem.W.subIn K (.ref c) (.type "ValueError") else none) = _
  rw [if_pos (by decide +kernel)]
  show PySem.W.mroIn K c _ = _
  rw [z.mro, List.contains_cons, hv, Bool.or_true]
end
section
variable {P : Program} {w : World} {K : PySem.W.Frag} {mg : Str → Option Value} {base : Heap} {cs : Nat → Addr}
theorem DefF.fun_ {x : Str} {st : Stmt} {f : Addr} (z : DefF K x st f) : ∃ fd, Fun K x x st f fd := by
  obtain ⟨oc, od, kV, doc, pm, an, cd, ct, sl, h, hc⟩ := z.fn
  exact ⟨_, fun_mk h hc z.kp⟩
/-- def __init__(self, n): self.n = n -/
theorem ini_ok {q : Str} {st : Stmt} {n : Str} {c f : Addr} (T : OexC K c) (z : IniF K q st n c f)
    (S : FnScope ["self", n] ["self", n] (defScope st))
    (body : ∀ (cdv : Value) (A : Around) (outer : List Env) (s : Shared) (H : Hp) (E : XK), PSs (cxOf CX0 P w K mg base ["self", n] q (defScope st) f cdv A outer s H E).nox (defBody st) (tOst K n (tVar 0) (tVar 1)))
    (binds : ∀ (kV doc pm : Value) (an : Option Addr) (cdv ct : Value) (u v : Value), bindArgs (PySem.W.fnOf "__init__" q (defArgs st) (defBody st) (defScope st) .none kV doc pm an cdv ct) ⟨[u, v], []⟩ = pure ([("self", u), (n, v)] : List (Str × Value)))
    (bindk : ∀ (kV doc pm : Value) (an : Option Addr) (cdv ct : Value) (u v : Value), bindArgs (PySem.W.fnOf "__init__" q (defArgs st) (defBody st) (defScope st) .none kV doc pm an cdv ct) ⟨[u], [(n, v)]⟩ = pure ([("self", u), (n, v)] : List (Str × Value))) :
    IniC P w K mg base c f n := by
  obtain ⟨oc, od, kV, doc, pm, an, cd, ct, sl, h, hc⟩ := z.fn
  have F : Fun K "__init__" q st f _ := fun_mk h hc z.kI
  refine ⟨T, z.iC, z.tI, _, ?_, fun s u v => .of_eq (binds kV doc pm an cd ct u v), fun s u v => .of_eq (bindk kV doc pm an cd ct u v)⟩
  refine F.ok (k := 0) S (fun vs H Q E h => ?_) (fun cdv A outer s H vs Q E hr h => ⟨_, body cdv A outer s H E, ?_⟩)
  · obtain ⟨a, y, rfl, _⟩ := h
    rfl
  · obtain ⟨a, y, rfl, ha, k⟩ := h
    exact ⟨y, rfl, _, rfl, a, c, rfl, T, z.nf, .inl ⟨ha, fun dx n1 n2 => k dx n1 n2⟩⟩
end
end Lw
set_option Elab.async false
set_option linter.all false
set_option maxRecDepth 100000
set_option maxHeartbeats 4000000
namespace Lw
open PySem PySem.Spec PyProof.Rows L2 ExV
abbrev sChk : Stmt := topS 15
theorem scChk : FnScope ["inventory", "reason"] ["inventory"] (defScope sChk) := ⟨rfl, rfl, rfl, by decide +kernel, rfl, by decide +kernel, by decide +kernel⟩
/-- an error of the class C with the reason is let out, if there is one -/
abbrev lets (C : Addr) (F H : Hp) (d : PyData) (E : XK) : Prop := errD d ≠ .none → ∀ r dx F' H', Dl.Stp F H F' H' → Dl.Tl F' r (errD d) → H' dx = some (.xd [("reason", r)]) → E (.ref C) (some dx) H'
abbrev spChk (C : Addr) : Sp := fun vs H Q E => ∃ F d, Evl.Ex F H ∧ Dl.TlAll F vs [d] ∧ Dl.fit d = true ∧ (errD d = .none → ∀ F' H', Dl.Stp F H F' H' → Q .non H') ∧ lets C F H d E
section
variable {P : Program} {w : World} {K : PySem.W.Frag} {mg : Str → Option Value} {base : Heap}
theorem isNon_iff {d : PyData} : Dl.isNon d = true ↔ d = .none := by
  cases d <;> simp [Dl.isNon]
theorem ok_chk {f fE C fI : Addr} {fd fdE : FuncData} (F : Fun K "check_inventory" "check_inventory" sChk f fd) (FE : Fun K "inventory_error" "inventory_error" sErr fE fdE) (bE : Binds K fdE ["value"] []) (gE : mg "inventory_error" = some (.ref fE)) (GE : FnOk P w K mg base CX0 6 fE fdE ["value"] spErr)
    (Z : IniC P w K mg base C fI "reason") (gC : mg "InvalidInventory" = some (.ref C)) : FnOk P w K mg base (L2.CX P w) 7 f fd ["inventory"] (spChk C) := by
  refine F.okX scChk (fun vs H Q E h => ?_) (fun cdv A outer s H vs Q E hr h => ?_)
  · obtain ⟨F, d, _, ht, _⟩ := h
    exact ht.length
  · obtain ⟨F, d, b, ht, hd, good, bad⟩ := h
    have nd := scChk.nd
    obtain ⟨fdI, FI, b1, b2⟩ := Z.fn
    have bI : Binds K fdI ["self", "reason"] [] := fun s us _ hl => by
      match us, hl with
      | [u, v], _ => exact b1 s u v
    refine ⟨_, pss_cons (ps_set (i := 1) nd rfl (.inl rfl) (pe_call GE hr (by rfl) gE FE.kp bE .nil pass0 (pa_cons (pv 0) pa_nil)))
      (pss_one (ps_if (pt_cmp (pc_notN (pv 1))) (pss_one (ps_raise rfl (takes_of rfl rfl rfl rfl) (pmk_oex Z.T Z.iC Z.tI FI (hr.mono (by decide)) bI .nil pass0 (by rfl) gC (pa_cons (pv 1) pa_nil)))) pss_nil)), ?_⟩
    cases ht with
    | @cons x _ _ _ hx tl =>
    cases tl
    refine Dl.q_asg (F := F) (Dl.callF (Dl.cons (Dl.var rfl hx) Dl.nil) ⟨d, rfl, hd⟩) b fun r F1 H1 s1 tr => ?_
    have tr : Dl.Tl F1 r (errD d) := tr
    refine Dl.s_if (F := F1) (Dl.notN (Dl.var rfl tr)) s1.i (fun hc F2 H2 s2 => ?_) (fun hc F2 H2 s2 => ?_)
    · have ne : errD d ≠ .none := fun z => by
        rw [z] at hc
        cases hc
      refine ⟨_, rfl, by show 1 ≤ 1000; decide, fun a ha => ⟨a, r, rfl, upd_same, fun dx hdx nx => ⟨rfl, dx, [("reason", r)], upd_same, ?_, ?_, ?_⟩⟩⟩
      · rw [upd_ne nx]
        exact upd_same
      · rw [upd_ne nx] at hdx
        exact hdx
      · have hdx2 : H2 dx = none := by
          rw [upd_ne nx] at hdx
          exact hdx
        have keep : ∀ c o, H2 c = some o → (upd (del (upd (upd (upd H2 a (exo a C none)) dx (exd dx [("reason", r)])) a (exo a C (some dx))) a) dx (.xd [("reason", r)])) c = some o := fun c o e => by
          have n1 : c ≠ a := fun z => by rw [z, ha] at e; cases e
          have n2 : c ≠ dx := fun z => by rw [z, hdx2] at e; cases e
          rw [upd_ne n2, del_ne n1, upd_ne n1, upd_ne n2, upd_ne n1]
          exact e
        refine bad ne r dx F2 _ ((s1.trans s2).trans ⟨Evl.Ex.refl _, keep, fun c o e => keep c o (s2.i c o e), fun c h1 _ => h1⟩) (tr.mono s2.f) upd_same
    · have e : errD d = .none := by
        rw [Bool.not_eq_false'] at hc
        exact isNon_iff.mp hc
      exact good e F2 H2 (s1.trans s2)
end
end Lw
set_option Elab.async false
set_option linter.all false
set_option maxRecDepth 100000
set_option maxHeartbeats 4000000
namespace Gn
open PySem PySem.Spec PyProof.Rows L2 Lw
theorem when_in {t : TT} {tn tz : TS} {DD : Ends} {σ : L2.St} {H : Hp} (h : t σ H fun c H1 => if c = true then tn { DD with nx := tz DD } σ H1 else tz DD σ H1) : tSeq (tIfS t tn tNext) tz DD σ H := h
theorem or_in {t u : TT} {σ : L2.St} {H : Hp} {Q : Bool → Hp → Prop} (h : t σ H fun c H1 => if c = true then Q true H1 else u σ H1 Q) : tOr t u σ H Q := h
theorem and_in {t u : TT} {σ : L2.St} {H : Hp} {Q : Bool → Hp → Prop} (h : t σ H fun c H1 => if c = true then u σ H1 Q else Q false H1) : tAnd t u σ H Q := h
end Gn
namespace Lw
open PySem PySem.Spec PyProof.Rows L2 ExV
theorem err_none {d : PyData} (h : errD d = .none) : ∃ rs its, d = .tuple [.tuple rs, .list its] ∧ okInv rs its ∧ 0 < rs.length := by
  unfold errD at h
  split at h
  · rename_i r i
    split at h
    · cases h
    · rename_i h1
      split at h
      · cases h
      · rename_i h2
        split at h
        · cases h
        · rename_i h3
          have k1 : kindsD 1 4 r = true := by
            cases q : kindsD 1 4 r with
            | true => rfl
            | false => exact absurd q h1
          cases r <;> try cases k1
          rename_i rs
          obtain ⟨k2, k3⟩ := Bool.and_eq_true_iff.mp (show ((decide ((1 : Int) ≤ (rs.length : Int)) && decide ((rs.length : Int) ≤ 4)) && rs.all wordD) = true from k1)
          obtain ⟨k4, k5⟩ := Bool.and_eq_true_iff.mp k2
          have k6 := of_decide_eq_true k4
          have k7 := of_decide_eq_true k5
          have l1 : (Dl.isLst i && (decide (1 ≤ ((rowsD i).length : Int)) && decide (((rowsD i).length : Int) ≤ 24))) = true := by
            cases q : (Dl.isLst i && (decide (1 ≤ ((rowsD i).length : Int)) && decide (((rowsD i).length : Int) ≤ 24))) with
            | true => rfl
            | false => exact absurd q h2
          obtain ⟨l2, l3⟩ := Bool.and_eq_true_iff.mp l1
          cases i <;> try cases l2
          rename_i its
          have l4 := of_decide_eq_true (Bool.and_eq_true_iff.mp l3).2
          have l5 : (its.length : Int) ≤ 24 := l4
          have b1 : Dl.isNon (badD its) = true := by
            cases q : Dl.isNon (badD its) with
            | true => rfl
            | false => exact absurd q h3
          exact ⟨rs, its, rfl, ⟨k3, by omega, bad_all b1, by omega⟩, by omega⟩
  · cases h
/-- a function of an inventory: it lets the error out, or ends -/
abbrev spInvF (C : Addr) (more : List PyData) : Sp := fun vs H Q E => ∃ F d, Evl.Ex F H ∧ Dl.TlAll F vs (d :: more) ∧ Dl.fit d = true ∧ (errD d = .none → ∀ y F' H', Dl.Stp F H F' H' → Q y H') ∧ lets C F H d E
abbrev sLs : Stmt := topS 12
theorem scLs : FnScope ["inventory"] ["inventory"] (defScope sLs) := ⟨rfl, rfl, rfl, by decide +kernel, rfl, by decide +kernel, by decide +kernel⟩
abbrev sSk : Stmt := topS 13
theorem scSk : FnScope ["inventory", "slot"] ["inventory", "slot"] (defScope sSk) := ⟨rfl, rfl, rfl, by decide +kernel, rfl, by decide +kernel, by decide +kernel⟩
abbrev sCs : Stmt := topS 16
theorem scCs : FnScope ["inventory", "slot"] ["inventory", "slot"] (defScope sCs) := ⟨rfl, rfl, rfl, by decide +kernel, rfl, by decide +kernel, by decide +kernel⟩
/-- the first root slot is known -/
abbrev spCs0 : Sp := fun vs H Q _ => ∃ F rs its, Evl.Ex F H ∧ Dl.TlAll F vs [.tuple [.tuple rs, .list its], .tuple [.str "", .int 0]] ∧ okInv rs its ∧ 0 < rs.length ∧ ∀ F' H', Dl.Stp F H F' H' → Q .non H'
section
variable {P : Program} {w : World} {K : PySem.W.Frag} {mg : Str → Option Value} {base : Heap}
theorem root_get {rs its : List PyData} (pos : 0 < rs.length) {F H : Hp} {D : Addr} {y : V} (b : Evl.Ex F H) (hy : Dl.Tl F y (.tuple [.str "", .int 0])) (hD : H D = some (.dT (kbs rs its))) : ∃ v, ∀ G, Evl.Ex H G → DGet G D y (some v) := by
  cases hy with
  | @tup q xs _ h1 t1 =>
  have exs : xs = [V.str "", V.int 0] := by
    cases t1 with
    | @cons w1 _ _ _ a1 u2 =>
    cases u2 with
    | @cons w2 _ _ _ a2 u3 =>
    cases u3
    cases a1
    cases a2
    rfl
  subst exs
  obtain ⟨v, hv⟩ := Option.isSome_iff_exists.mp (kbsI_root (its := its) pos its.length)
  have hv : valV (kbs rs its) [Sum.inr "", Sum.inl 0] = some v := hv
  refine ⟨v, fun G eG => ?_⟩
  rw [← hv]
  exact DGet.t (eG _ _ hD) (eG _ _ (b _ _ h1))
theorem lets.step {C : Addr} {F H F1 H1 : Hp} {d : PyData} {E : XK} (h : lets C F H d E) (s : Dl.Stp F H F1 H1) : lets C F1 H1 d E := fun ne r dx F2 H2 s2 t e => h ne r dx F2 H2 (s.trans s2) t e
theorem ok_ls {f fC fK C : Addr} {fd fdC fdK : FuncData} (F : Fun K "list_slots" "list_slots" sLs f fd) (FC : Fun K "check_inventory" "check_inventory" sChk fC fdC) (bC : Binds K fdC ["inventory"] []) (gC : mg "check_inventory" = some (.ref fC)) (GC : FnOk P w K mg base (L2.CX P w) 7 fC fdC ["inventory"] (spChk C))
    (FK : Fun K "kinds_by_slot" "kinds_by_slot" sKbs fK fdK) (bK : Binds K fdK ["inventory"] []) (gK : mg "kinds_by_slot" = some (.ref fK)) (GK : FnOk P w K mg base CX0 1 fK fdK ["inventory"] spKbs) (mli : mg "list" = none) :
    FnOk P w K mg base (L2.CX P w) 8 f fd ["inventory"] (spInvF C []) := by
  refine F.okX scLs (fun vs H Q E h => ?_) (fun cdv A outer s H vs Q E hr h => ?_)
  · obtain ⟨F, d, _, ht, _⟩ := h
    exact ht.length
  · obtain ⟨F, d, b, ht, hd, good, bad⟩ := h
    have nd := scLs.nd
    refine ⟨_, pss_cons (ps_expr (pe_callS GC hr (by rfl) gC FC.kp bC (fun σ => passAt (takes_of rfl rfl rfl rfl) σ) (pa_cons (pv 0) pa_nil)))
      (pss_one (ps_ret (pe_callTy (call_list_dT rfl) (by rfl) mli (by decide +kernel) (pa_cons (pe_call GK (hr.mono (by decide)) (by rfl) gK FK.kp bK .nil pass0 (pa_cons (pv 0) pa_nil)) pa_nil)))), ?_⟩
    cases ht with
    | @cons x _ _ _ hx tl =>
    cases tl
    refine ⟨_, rfl, F, d, b, .cons hx .nil, hd, fun e F1 H1 s1 => ?_, bad⟩
    obtain ⟨rs, its, rfl, ok, _⟩ := err_none e
    refine ⟨_, rfl, F1, rs, its, s1.i, .cons (hx.mono s1.f) .nil, ok, fun D F2 H2 s2 fD nD hD => ⟨D, _, rfl, .inl hD, fun l bks hl _ => ?_⟩⟩
    exact good e _ F2 _ ((s1.trans s2).trans (.hid s2.i hl))
theorem ok_cs0 {f fK fS : Addr} {fd fdK fdS : FuncData} (F : Fun K "check_slot" "check_slot" sCs f fd)
    (FK : Fun K "kinds_by_slot" "kinds_by_slot" sKbs fK fdK) (bK : Binds K fdK ["inventory"] []) (gK : mg "kinds_by_slot" = some (.ref fK)) (GK : FnOk P w K mg base CX0 1 fK fdK ["inventory"] spKbs)
    (FS : Fun K "is_slot" "is_slot" sSlot fS fdS) (bS : Binds K fdS ["value"] []) (gS : mg "is_slot" = some (.ref fS)) (GS : FnOk P w K mg base CX0 1 fS fdS ["value"] spSlot) :
    FnOk P w K mg base CX0 2 f fd ["inventory", "slot"] spCs0 := by
  refine F.ok scCs (fun vs H Q E h => ?_) (fun cdv A outer s H vs Q E hr h => ?_)
  · obtain ⟨F, rs, its, _, ht, _⟩ := h
    exact ht.length
  · obtain ⟨F, rs, its, b, ht, ok, pos, good⟩ := h
    have nd := scCs.nd
    have hu1 : (A.deeper (envOfC "check_slot" (defScope sCs) s.heap.objs.size f cdv)).units + 1 < cLine := by
      have z := hr.units
      omega
    refine ⟨_, pss_one (ps_if (PW.pt (pw_or (pt_not (pt_val (pe_call GS (hr.mono (by decide)) (by rfl) gS FS.kp bS .nil pass0 (pa_cons (pv 1) pa_nil)))) (pw_or1 (pt_cmp (pc_dnotin hu1 (pv 1) (pe_call GK (hr.mono (by decide)) (by rfl) gK FK.kp bK .nil pass0 (pa_cons (pv 0) pa_nil))))))) (pss_one ps_never) pss_nil), ?_⟩
    cases ht with
    | @cons x _ _ _ hx tl =>
    cases tl with
    | @cons y _ _ _ hy tl =>
    cases tl
    have okS : Dl.fit (.tuple [.str "", .int 0]) = true := by decide +kernel
    have tS : Dl.EvT (tNot (tB (tCall spSlot [] E0 (tCons (tVar 1) tNil)))) [some x, some y] F false := by
      have z : Dl.Ev (tCall spSlot [] E0 (tCons (tVar 1) tNil)) [some x, some y] F (.bool (isSlotD (.tuple [.str "", .int 0]))) := Dl.callF (Dl.cons (Dl.var rfl hy) Dl.nil) ⟨_, rfl, okS⟩
      exact Dl.tis (Dl.tnot (Dl.testB z)) rfl
    show tOr _ _ _ _ _
    refine Gn.or_in (tS F H (Evl.Ex.refl _) b _ fun F1 H1 s1 => ?_)
    rw [if_neg Bool.false_ne_true]
    refine ⟨_, rfl, _, rfl, F1, rs, its, s1.i, .cons (hx.mono s1.f) .nil, ok, fun D F2 H2 s2 fD nD hD => ?_⟩
    obtain ⟨v, get⟩ := root_get pos s2.i (hy.mono (s1.trans s2).f) hD
    refine ⟨D, some v, rfl, get H2 (Evl.Ex.refl _), _, rfl, ?_⟩
    exact good F2 H2 (s1.trans s2)
theorem ok_sk {f fC fK fS C : Addr} {fd fdC fdK fdS : FuncData} (F : Fun K "slot_kind" "slot_kind" sSk f fd) (FC : Fun K "check_inventory" "check_inventory" sChk fC fdC) (bC : Binds K fdC ["inventory"] []) (gC : mg "check_inventory" = some (.ref fC)) (GC : FnOk P w K mg base (L2.CX P w) 7 fC fdC ["inventory"] (spChk C))
    (FK : Fun K "kinds_by_slot" "kinds_by_slot" sKbs fK fdK) (bK : Binds K fdK ["inventory"] []) (gK : mg "kinds_by_slot" = some (.ref fK)) (GK : FnOk P w K mg base CX0 1 fK fdK ["inventory"] spKbs)
    (FS : Fun K "check_slot" "check_slot" sCs fS fdS) (bS : Binds K fdS ["inventory", "slot"] []) (gS : mg "check_slot" = some (.ref fS)) (GS : FnOk P w K mg base CX0 2 fS fdS ["inventory", "slot"] spCs0) :
    FnOk P w K mg base (L2.CX P w) 8 f fd ["inventory", "slot"] (spInvF C [.tuple [.str "", .int 0]]) := by
  refine F.okX scSk (fun vs H Q E h => ?_) (fun cdv A outer s H vs Q E hr h => ?_)
  · obtain ⟨F, d, _, ht, _⟩ := h
    exact ht.length
  · obtain ⟨F, d, b, ht, hd, good, bad⟩ := h
    have nd := scSk.nd
    have hu1 : (A.deeper (envOfC "slot_kind" (defScope sSk) s.heap.objs.size f cdv)).units + 1 < cLine := by
      have z := hr.units
      omega
    refine ⟨_, pss_cons (ps_expr (pe_callS GC hr (by rfl) gC FC.kp bC (fun σ => passAt (takes_of rfl rfl rfl rfl) σ) (pa_cons (pv 0) pa_nil)))
      (pss_cons (ps_expr (pe_call GS (hr.mono (by decide)) (by rfl) gS FS.kp bS .nil pass0 (pa_cons (pv 0) (pa_cons (pv 1) pa_nil))))
      (pss_one (ps_ret (pe_dget hu1 (pe_call GK (hr.mono (by decide)) (by rfl) gK FK.kp bK .nil pass0 (pa_cons (pv 0) pa_nil)) (pv 1) (fun _ _ => rfl))))), ?_⟩
    cases ht with
    | @cons x _ _ _ hx tl =>
    cases tl with
    | @cons y _ _ _ hy tl =>
    cases tl
    refine ⟨_, rfl, F, d, b, .cons hx .nil, hd, fun e F1 H1 s1 => ?_, bad⟩
    obtain ⟨rs, its, rfl, ok, pos⟩ := err_none e
    refine ⟨_, rfl, _, rfl, F1, rs, its, s1.i, .cons (hx.mono s1.f) (.cons (hy.mono s1.f) .nil), ok, pos, fun F2 H2 s2 => ?_⟩
    have s12 := s1.trans s2
    refine ⟨_, rfl, F2, rs, its, s2.i, .cons (hx.mono s12.f) .nil, ok, fun D F3 H3 s3 fD nD hD => ?_⟩
    obtain ⟨v, get⟩ := root_get pos s3.i (hy.mono (s12.trans s3).f) hD
    exact ⟨_, rfl, D, v, rfl, get H3 (Evl.Ex.refl _), good e v F3 H3 (s12.trans s3)⟩
end
end Lw
set_option Elab.async false
set_option linter.all false
set_option maxRecDepth 100000
set_option maxHeartbeats 4000000
namespace Lw
open PySem PySem.Spec PyProof.Rows L2 ExV
abbrev sSu : Stmt := topS 14
abbrev nSu : List Str := ["inventory", "kind", "surplus", "number"]
theorem scSu : FnScope nSu ["inventory"] (defScope sSu) := ⟨rfl, rfl, rfl, by decide +kernel, rfl, by decide +kernel, by decide +kernel⟩
theorem uniq_ex : ∀ xs : List Str, ∃ zs : List Str, zs.Nodup ∧ (∀ z, z ∈ zs ↔ z ∈ xs) ∧ zs.length ≤ xs.length
  | [] => ⟨[], List.nodup_nil, fun _ => Iff.rfl, Nat.le_refl _⟩
  | x :: xs => by
    obtain ⟨zs, nd, m, l⟩ := uniq_ex xs
    by_cases h : x ∈ zs
    · refine ⟨zs, nd, fun z => ?_, Nat.le_succ_of_le l⟩
      rw [m z, List.mem_cons]
      refine ⟨.inr, fun o => ?_⟩
      rcases o with e | o
      · rw [e]
        exact (m x).mp h
      · exact o
    · refine ⟨x :: zs, List.nodup_cons.mpr ⟨h, nd⟩, fun z => ?_, Nat.succ_le_succ l⟩
      rw [List.mem_cons, List.mem_cons, m z]
theorem dist_is (xs : List Str) : DistS xs (distS xs) ∧ (distS xs).length ≤ xs.length := by
  obtain ⟨zs, nd, m, l⟩ := uniq_ex xs
  have pm := List.mergeSort_perm zs fun a b => decide (leS a b)
  have pw := List.pairwise_mergeSort (le := fun a b => decide (leS a b)) (fun a b c h1 h2 => decide_eq_true (List.le_trans (of_decide_eq_true h1) (of_decide_eq_true h2))) (fun a b => by
      rw [Bool.or_eq_true]
      exact (List.le_total a.cps.toList b.cps.toList).elim (fun h => .inl (decide_eq_true h)) fun h => .inr (decide_eq_true h)) zs
  have d : DistS xs (zs.mergeSort fun a b => decide (leS a b)) := ⟨pw.imp fun h => of_decide_eq_true h, pm.nodup_iff.mpr nd, fun z => pm.mem_iff.trans (m z)⟩
  rw [distS_eq d]
  exact ⟨d, by rw [pm.length_eq]; exact l⟩
/-- numbers by text; each text of ks has one -/
structure Sur (ks : List Str) (kvs : List (Key × V)) : Prop where
  has : ∀ z ∈ ks, ∃ n : Int, valV kvs (.inr z) = some (.int n)
  all : ∀ kv ∈ kvs, (∃ z : Str, kv.1 = .inr z) ∧ ∃ n : Int, kv.2 = .int n
  few : kvs.length ≤ 200
theorem Sur.put {ks : List Str} {kvs : List (Key × V)} (h : Sur ks kvs) {z : Str} (hz : z ∈ ks) (n : Int) : Sur ks (putK kvs (.inr z) (.int n)) := by
  refine ⟨fun y hy => ?_, fun kv hkv => ?_, ?_⟩
  · rw [valV_put]
    split
    · exact ⟨n, rfl⟩
    · exact h.has y hy
  · unfold putK at hkv
    split at hkv
    · obtain ⟨x, hx, rfl⟩ := List.mem_map.mp hkv
      by_cases e : x.1 = .inr z
      · rw [if_pos e]
        exact ⟨⟨z, e⟩, n, rfl⟩
      · rw [if_neg e]
        exact h.all x hx
    · rcases List.mem_append.mp hkv with y | y
      · exact h.all kv y
      · rw [List.mem_singleton.mp y]
        exact ⟨⟨z, rfl⟩, n, rfl⟩
  · obtain ⟨m, hm⟩ := h.has z hz
    have a : (kvs.any fun kv => decide (kv.1 = .inr z)) = true := by
      rw [valV_any, hm]
      rfl
    unfold putK
    rw [if_pos a, List.length_map]
    exact h.few
theorem Sur.start {zs : List Str} {kvs : List (Key × V)} {i : Nat} {z : Str} (h : Sur (zs.take i) kvs) (hi : zs[i]? = some z) (le : kvs.length ≤ i) (i100 : i < 150) : Sur (zs.take (i + 1)) (putK kvs (.inr z) (.int 0)) ∧ (putK kvs (Sum.inr z : Key) (.int 0)).length ≤ i + 1 := by
  have ln := length_putK kvs (Sum.inr z : Key) (.int 0)
  refine ⟨⟨fun y hy => ?_, fun kv hkv => ?_, by omega⟩, by omega⟩
  · rw [valV_put]
    split
    · exact ⟨0, rfl⟩
    · rename_i ne
      rw [List.take_add_one, hi] at hy
      rcases List.mem_append.mp hy with q | q
      · exact h.has y q
      · have e : y = z := by simpa using q
        exact absurd (by rw [e]) ne
  · unfold putK at hkv
    split at hkv
    · obtain ⟨x, hx, rfl⟩ := List.mem_map.mp hkv
      by_cases e : x.1 = .inr z
      · rw [if_pos e]
        exact ⟨⟨z, e⟩, 0, rfl⟩
      · rw [if_neg e]
        exact h.all x hx
    · rcases List.mem_append.mp hkv with y | y
      · exact h.all kv y
      · rw [List.mem_singleton.mp y]
        exact ⟨⟨z, rfl⟩, 0, rfl⟩
section
variable {P : Program} {w : World} {K : PySem.W.Frag} {mg : Str → Option Value} {base : Heap}
theorem ok_su {f fC fK fN fD C : Addr} {fd fdC fdK fdN fdD : FuncData} (F : Fun K "slot_surplus" "slot_surplus" sSu f fd) (FC : Fun K "check_inventory" "check_inventory" sChk fC fdC) (bC : Binds K fdC ["inventory"] []) (gC : mg "check_inventory" = some (.ref fC)) (GC : FnOk P w K mg base (L2.CX P w) 7 fC fdC ["inventory"] (spChk C))
    (FK : Fun K "kinds_by_slot" "kinds_by_slot" sKbs fK fdK) (bK : Binds K fdK ["inventory"] []) (gK : mg "kinds_by_slot" = some (.ref fK)) (GK : FnOk P w K mg base CX0 1 fK fdK ["inventory"] spKbs)
    (FN : Fun K "kinds_by_name" "kinds_by_name" sKbn fN fdN) (bN : Binds K fdN ["inventory"] []) (gN : mg "kinds_by_name" = some (.ref fN)) (GN : FnOk P w K mg base CX0 1 fN fdN ["inventory"] spKbn)
    (FD : Fun K "distinct_kinds" "distinct_kinds" sDist fD fdD) (bD : Binds K fdD ["inventory"] []) (gD : mg "distinct_kinds" = some (.ref fD)) (GD : FnOk P w K mg base CX0 1 fD fdD ["inventory"] spDist) :
    FnOk P w K mg base (L2.CX P w) 8 f fd ["inventory"] (spInvF C []) := by
  refine F.okX scSu (fun vs H Q E h => ?_) (fun cdv A outer s H vs Q E hr h => ?_)
  · obtain ⟨F, d, _, ht, _⟩ := h
    exact ht.length
  · obtain ⟨F, d, b, ht, hd, good, bad⟩ := h
    have nd := scSu.nd
    have hu1 : (A.deeper (envOfC "slot_surplus" (defScope sSu) s.heap.objs.size f cdv)).units + 1 < cLine := by
      have z := hr.units
      omega
    have hr1 : Room 1 (A.deeper (envOfC "slot_surplus" (defScope sSu) s.heap.objs.size f cdv)) := hr.mono (by decide)
    refine ⟨_, pss_cons (ps_expr (pe_callS GC hr (by rfl) gC FC.kp bC (fun σ => passAt (takes_of rfl rfl rfl rfl) σ) (pa_cons (pv 0) pa_nil)))
      (PSs.nox (pss_cons (DcT.ps_setDc (i := 2) (own := [("kind", 1)]) (g := gName 1) (tt := tYes) (tk := tVar 1) (tv := tC (.int 0)) rfl nd rfl rfl (DcT.sw_dict rfl (by rfl) (by rfl) (by rfl)) (pi_list (pe_call GD hr1 (by rfl) gD FD.kp bD .nil pass0 (pa_cons (pv 0) pa_nil)))
          (blkOk_by (own := [("kind", 1)]) (N := nSu) (sc := defScope sSu) (by decide +kernel)) (fun _ _ _ _ _ => pg_name (i := 1) nd rfl (.inl rfl)) (fun _ _ _ _ _ => pts_nil) (fun _ _ _ _ _ => pv 1) (fun _ _ _ _ _ => pe_int))
      (pss_cons (ps_for PassesOwn.never rfl (ValT.pi_valuesT (ValT.pe_lockd (pe_call GK hr1 (by rfl) gK FK.kp bK .nil pass0 (pa_cons (pv 0) pa_nil)))) (pg_name (i := 1) nd rfl (.inl rfl)) (pss_one (ps_daug hu1 (pv 2) (pv 1) pe_int in_add (fun _ _ _ => rfl))))
      (pss_cons (ps_for PassesOwn.never rfl (pi_values (ValT.pe_lockd (pe_call GN hr1 (by rfl) gN FN.kp bN .nil pass0 (pa_cons (pv 0) pa_nil)))) (pg_name (i := 1) nd rfl (.inl rfl)) (pss_one (ps_daug hu1 (pv 2) (pv 1) pe_int in_sub (fun _ _ _ => rfl))))
      (pss_one (ps_ret (pe_dc (own := [("kind", 1), ("number", 3)]) (g := gTup K 2 (gCons (gName 1) (gCons (gName 3) gNil))) (tt := tTest (tOp (rNeD K) (tVar 3) (tC (.int 0)))) (tk := tVar 1) (tv := tVar 3) rfl nd (pi_items (ValT.pe_lockd (pv 2)))
          (blkOk_by (own := [("kind", 1), ("number", 3)]) (N := nSu) (sc := defScope sSu) (by decide +kernel)) (fun _ _ _ _ _ => pg_tup rfl (pgs_cons (pg_name (i := 1) nd rfl (.inl rfl)) (pgs_cons (pg_name (i := 3) nd rfl (.inl rfl)) pgs_nil)))
          (fun _ _ _ _ _ => pts_one (pt_cmpR (op_neD hr.units) (pv 3) pe_int (nomark _))) (fun _ _ _ _ _ => pv 1) (fun _ _ _ _ _ => pv 3)))))))), ?_⟩
    cases ht with
    | @cons x _ _ _ hx tl =>
    cases tl
    refine ⟨_, rfl, F, d, b, .cons hx .nil, hd, fun e F1 H1 s1 => ?_, bad⟩
    obtain ⟨rs, its, rfl, ok, pos⟩ := err_none e
    have hx1 := hx.mono s1.f
    obtain ⟨ds, dl⟩ := dist_is (kindsS rs its)
    have kl : (kindsS rs its).length ≤ 4 + 5 * 24 := by
      have z1 := flat_len ok.2.2.1
      have z2 := ok.2.1
      have z3 := ok.2.2.2
      unfold kindsS
      rw [List.length_append, List.length_map]
      omega
    have sL := sizeLine_eq
    have dk : Dl.Ev (tCall spDist [] E0 (tCons (tVar 0) tNil)) (start nSu [x]) F1 (.list ((distS (kindsS rs its)).map .str)) := Dl.callF (Dl.cons (Dl.var rfl hx1) Dl.nil) ⟨rs, its, rfl, ok⟩
    dsimp only
    refine Gn.q_any ?_
    show tCall spDist [] E0 (tCons (tVar 0) tNil) (start nSu [x]) H1 _
    refine dk F1 H1 (Evl.Ex.refl _) s1.i _ fun xl F2 H2 s2 tl2 => ?_
    cases tl2 with
    | @lst l ys _ h2 t2 =>
    have ey := strs_of t2
    subst ey
    have s12 := s1.trans s2
    have hx2 := hx1.mono s2.f
    refine ⟨l, rfl, ⟨_, .inl (.inl (s2.i _ _ h2))⟩, fun D hD => ?_⟩
    have fD : F2 D = none := Evl.fresh_back s2.i hD
    have len : ((distS (kindsS rs its)).map V.str).length = (distS (kindsS rs its)).length := List.length_map _
    have sur0 : Sur ((distS (kindsS rs its)).take 0) [] := by
      refine ⟨fun z hz => ?_, fun kv h => ?_, Nat.zero_le _⟩
      · rw [List.take_zero] at hz
        cases hz
      · cases h
    refine DcT.it_dK (walk_list (K := K) (a := l) (xs := (distS (kindsS rs its)).map V.str)) (fun j H' => Dl.Stp F2 H2 F2 H' ∧ ∃ kvs, H' D = some (.dK kvs) ∧ Sur ((distS (kindsS rs its)).take j) kvs ∧ kvs.length ≤ j)
      ⟨.hid s2.i hD, [], upd_same, sur0, Nat.le_refl _⟩ (fun i H' _ hP => .inl (.inl (hP.1.i _ _ h2))) (fun j v H' H'' hj hP hy => ?_) (fun H' hP => ?_)
    · obtain ⟨rfl, hv⟩ := hy
      obtain ⟨sP, kvs, hP, sur, few⟩ := hP
      rw [len] at hj
      obtain ⟨z, hz⟩ : ∃ z, (distS (kindsS rs its))[j]? = some z := ⟨_, List.getElem?_eq_getElem hj⟩
      have ev : v = .str z := by
        rw [List.getElem?_map, hz] at hv
        exact (Option.some.inj hv).symm
      subst ev
      obtain ⟨nx1, nx2⟩ := sur.start hz few (by omega)
      refine ⟨rfl, Gn.yes_in (te := fun σ H Q => tVar 1 σ H Q) ?_⟩
      exact ⟨_, rfl, kvs, .inr z, rfl, hP, by omega, sP.mut hD fD, _, upd_same, nx1, nx2⟩
    · obtain ⟨sP, kvs, hP, sur, _⟩ := hP
      rw [len, List.take_length] at sur
      have sur : Sur (kindsS rs its) kvs := ⟨fun z hz => sur.has z ((ds.2.2 z).mpr hz), sur.all, sur.few⟩
      -- the slots are counted
      refine Gn.gname_in ?_
      have ne : ∀ {G : Hp} {c : Addr} {o : HO}, G c = some o → G c ≠ none := fun {G c o} h => by
        rw [h]
        exact fun z => nomatch z
      have back : ∀ {G G2 : Hp} {c : Addr}, Evl.Ex G G2 → G2 c = none → G c = none := fun {G G2 c} e h => by
        cases z : G c with
        | none => rfl
        | some o =>
          have y := e c o z
          rw [h] at y
          cases y
      refine ⟨_, rfl, F2, rs, its, sP.i, .cons hx2 .nil, ok, fun d3 F3 H3 s3 f3 n3 h3 => ⟨d3, _, rfl, h3, trivial, fun od => ⟨d3, od, _, rfl, upd_same, ?_⟩⟩⟩
      have s23 := sP.trans s3
      have n3' : H2 d3 = none := back sP.h n3
      have fD3 : F3 D = none := s3.n D fD (ne hP)
      have d3D : D ≠ d3 := fun z => by
        rw [z, n3] at hP
        cases hP
      have hx3 := hx2.mono s3.f
      refine for_it (ValT.walk_valuesT (d := d3) (o := od) (kvs := kbs rs its)) (fun i σ H' => ∃ y1 kvs, σ = [some x, y1, some (.ref D), none] ∧ Dl.Stp F2 H2 F3 H' ∧ H' d3 = some (.frz od (.dT (kbs rs its))) ∧ H' D = some (.dK kvs) ∧ Sur (kindsS rs its) kvs)
        ⟨_, kvs, rfl, s23.mut n3' f3, upd_same, by rw [upd_ne d3D]; exact s3.h _ _ hP, sur⟩ (fun i σ H' _ hQ => ?_) (fun i v σ H' H'' hi hQ hy => ?_) (fun σ H' hQ => ?_)
      · obtain ⟨_, _, _, _, h, _⟩ := hQ
        exact h
      · obtain ⟨y1, kv1, rfl, sQ, hz, hQ, su⟩ := hQ
        obtain ⟨rfl, k, hk⟩ := hy
        obtain ⟨_, z, hzk, ez⟩ := kbsI_ok (rs := rs) (its := its) its.length (k, v) (List.mem_of_getElem? hk)
        have ez : v = .str z := ez
        subst ez
        obtain ⟨n, hn⟩ := su.has z hzk
        refine Gn.gname_in ?_
        have sl := su.few
        refine ⟨_, rfl, _, rfl, D, .int n, rfl, by rw [← hn]; exact DGet.k (k := .inr z) hQ, n, 1, rfl, rfl, _, DPut.k (k := .inr z) hQ (by omega), ?_⟩
        exact ⟨_, _, rfl, sQ.mut hD fD3, by rw [upd_ne (Ne.symm d3D)]; exact hz, upd_same, su.put hzk _⟩
      · obtain ⟨y1, kv1, rfl, sQ, hz, hQ, su⟩ := hQ
        -- the items are counted
        refine ⟨_, rfl, F3, rs, its, sQ.i, .cons hx3 .nil, ok, fun d4 F4 H4 s4 f4 n4 h4 => ⟨d4, _, rfl, h4, trivial, fun od2 => ⟨d4, od2, _, rfl, upd_same, ?_⟩⟩⟩
        have s24 := sQ.trans s4
        have n4' : H2 d4 = none := back sQ.h n4
        have fD4 : F4 D = none := s4.n D fD3 (ne hQ)
        have d4D : D ≠ d4 := fun z => by
          rw [z, n4] at hQ
          cases hQ
        refine for_it (walk_values (d := d4) (o := od2) (kvs := kbn its)) (fun i σ H' => ∃ y1 kvs, σ = [some x, y1, some (.ref D), none] ∧ Dl.Stp F2 H2 F4 H' ∧ H' d4 = some (.frz od2 (.dK (kbn its))) ∧ H' D = some (.dK kvs) ∧ Sur (kindsS rs its) kvs)
          ⟨_, kv1, rfl, s24.mut n4' f4, upd_same, by rw [upd_ne d4D]; exact s4.h _ _ hQ, su⟩ (fun i σ H' _ hR => ?_) (fun i v σ H' H'' hi hR hy => ?_) (fun σ H' hR => ?_)
        · obtain ⟨_, _, _, _, h, _⟩ := hR
          exact h
        · obtain ⟨y1, kv2, rfl, sR, hw, hR, su2⟩ := hR
          obtain ⟨rfl, k, hk⟩ := hy
          obtain ⟨z, hzk, ez⟩ := kbnI_ok (rs := rs) (its := its) its.length (Nat.le_refl _) (k, v) (List.mem_of_getElem? hk)
          have ez : v = .str z := ez
          subst ez
          obtain ⟨n, hn⟩ := su2.has z hzk
          refine Gn.gname_in ?_
          have sl := su2.few
          refine ⟨_, rfl, _, rfl, D, .int n, rfl, by rw [← hn]; exact DGet.k (k := .inr z) hR, n, 1, rfl, rfl, _, DPut.k (k := .inr z) hR (by omega), ?_⟩
          exact ⟨_, _, rfl, sR.mut hD fD4, by rw [upd_ne (Ne.symm d4D)]; exact hw, upd_same, su2.put hzk _⟩
        · obtain ⟨y1, kv2, rfl, sR, _, hR, su2⟩ := hR
          -- those that are not nought
          refine ⟨_, rfl, D, _, rfl, hR, trivial, fun od3 => ⟨D, od3, kv2, rfl, upd_same, fun D2 hD2 => ?_⟩⟩
          have sB : Dl.Stp F2 H2 F4 (upd H' D (.frz od3 (.dK kv2))) := sR.mut hD fD4
          have fD2 : F4 D2 = none := Evl.fresh_back sB.i hD2
          have DD2 : D ≠ D2 := fun z => by
            rw [← z, upd_same] at hD2
            cases hD2
          refine DcT.it_dK (walk_items (d := D) (o := od3) (kvs := kv2)) (fun j G => ∃ F5, Dl.Stp F4 (upd H' D (.frz od3 (.dK kv2))) F5 G ∧ F5 D2 = none ∧ ∃ kv3, G D2 = some (.dK kv3) ∧ kv3.length ≤ j) ⟨F4, .hid sB.i hD2, fD2, [], upd_same, Nat.le_refl _⟩ (fun i G _ hS => hS.choose_spec.1.h _ _ upd_same) (fun j v G G2 hj hS hy => ?_) (fun G hS => ?_)
          · obtain ⟨F5, sS, f5, kv3, hS, few⟩ := hS
            obtain ⟨q1, a1, b1, rfl, hq, rfl, e1, e2⟩ := hy
            obtain ⟨kv, hkv⟩ : ∃ kv, kv2[j]? = some kv := ⟨_, List.getElem?_eq_getElem hj⟩
            obtain ⟨⟨z, ez⟩, n, en⟩ := su2.all kv (List.mem_of_getElem? hkv)
            have e1 : (kv2[j]?.map fun kv => kV kv.1) = some a1 := e1
            have e2 : kv2[j]?.map Prod.snd = some b1 := e2
            rw [hkv] at e1 e2
            have e1 : kV kv.1 = a1 := Option.some.inj e1
            have e2 : kv.2 = b1 := Option.some.inj e2
            rw [ez] at e1
            rw [en] at e2
            subst e1 e2
            have st1 : Dl.Stp F5 G F5 _ := .hid (o := .tup [kV (.inr z), .int n]) sS.i hq
            have sl := su2.few
            refine ⟨q1, _, rfl, .inl (.inl upd_same), rfl, _, _, rfl, _, _, rfl, rfl, rfl, ?_⟩
            have tst : Dl.EvT (tTest (tOp (rNeD K) (tVar 3) (tC (.int 0)))) [some x, some (kV (.inr z)), some (.ref D), some (.int n)] F5 (!PyData.eqv (.int n) (.int 0)) := Dl.test (Dl.op (Dl.var rfl (.int n)) Dl.int (Dl.neD (int_shaped n) (int_shaped 0)))
            refine tst F5 _ (Evl.Ex.refl _) st1.i _ fun F6 G6 s6 => ?_
            have s56 := (sS.trans st1).trans s6
            have f6 : F6 D2 = none := s6.n D2 f5 (ne (st1.h _ _ hS))
            have hS6 := s6.h _ _ (st1.h _ _ hS)
            cases (!PyData.eqv (.int n) (.int 0)) with
            | true =>
              rw [if_pos rfl]
              have ln := length_putK kv3 (.inr z : Key) (.int n)
              exact ⟨_, rfl, _, rfl, kv3, .inr z, rfl, hS6, by omega, F6, s56.mut hD2 f6, f6, _, upd_same, by omega⟩
            | false =>
              rw [if_neg Bool.false_ne_true]
              exact ⟨F6, s56, f6, kv3, hS6, by omega⟩
          · obtain ⟨F5, sS, _⟩ := hS
            exact good e _ F5 G ((s12.trans sB).trans sS)
end
end Lw
set_option Elab.async false
set_option linter.all false
set_option maxRecDepth 100000
set_option maxHeartbeats 4000000
set_option exponentiation.threshold 10000
namespace Lw
open PySem PySem.Spec PyProof.Rows L2
abbrev sInv : Stmt := topS 31
abbrev nInv : List Str := ["_law_source_here", "_law_limit", "_law_count", "_law_kinds", "_law_roots", "_law_built", "_law_name_pool", "_law_contents", "_law_k", "_law_owner", "_law_i", "_law_items_here", "_law_place"]
theorem scInv : FnScope nInv ["_law_source_here", "_law_limit"] (defScope sInv) := ⟨rfl, rfl, rfl, by decide +kernel, rfl, by decide +kernel, by decide +kernel⟩
section
variable {P : Program} {w : World} {K : PySem.W.Frag} {mg : Str → Option Value} {base : Heap}
abbrev okInvD (ds : List PyData) : Prop := ∃ limit : Nat, ds = [.int (limit : Int)] ∧ 4 ≤ limit ∧ limit ≤ 24
abbrev reInv (ds : List PyData) (d : PyData) : Prop := ∃ (roots : List Str) (its : List Itm) (xs : PyData), d = .tuple [.tuple [.tuple (roots.map .str), .list (its.map encI)], xs] ∧ InvOk roots its
abbrev spInv : Sp := Gn.spG 400 okInvD reInv
theorem ok_inv {f fD fS fI : Addr} {fd fdD fdS fdI : FuncData} (F : Fun K "_law_inventory" "_law_inventory" sInv f fd) (FD : Fun K "_law_draw" "_law_draw" sDraw fD fdD) (bD : Binds K fdD ["_law_source_here", "_law_limit"] []) (gD : mg "_law_draw" = some (.ref fD)) (GD : FnOk P w K mg base CX0 1 fD fdD ["_law_source_here", "_law_limit"] (spDraw K))
    (FS : Fun K "_law_shuffle" "_law_shuffle" sShuf fS fdS) (bS : Binds K fdS ["_law_source_here", "_law_values"] []) (gS : mg "_law_shuffle" = some (.ref fS)) (GS : FnOk P w K mg base CX0 2 fS fdS ["_law_source_here", "_law_values"] spShuf)
    (FI : Fun K "_law_items" "_law_items" sItems fI fdI) (bI : Binds K fdI ["_law_source_here", "_law_limit", "_law_kinds"] []) (gI : mg "_law_items" = some (.ref fI)) (GI : FnOk P w K mg base CX0 3 fI fdI ["_law_source_here", "_law_limit", "_law_kinds"] spItems)
    (ml : mg "len" = none) (mr : mg "range" = none) (ms : mg "sorted" = none) : FnOk P w K mg base CX0 4 f fd ["_law_source_here", "_law_limit"] spInv := by
  refine F.ok scInv (fun vs H Q E h => ?_) (fun cdv A outer s H vs Q E hr h => ?_)
  · obtain ⟨S, F, t, ws, ds, rfl, _, ht, ⟨limit, rfl, _⟩, _⟩ := h
    exact congrArg Nat.succ ht.length
  · obtain ⟨S, F, t, ws, ds, rfl, at0, ht, ⟨limit, rfl, L4, L24⟩, lim, q⟩ := h
    have nd := scInv.nd
    have hr1 : Room 1 (A.deeper (envOfC "_law_inventory" (defScope sInv) s.heap.objs.size f cdv)) := hr.mono (by decide)
    have hr2 : Room 2 (A.deeper (envOfC "_law_inventory" (defScope sInv) s.heap.objs.size f cdv)) := hr.mono (by decide)
    have hu1 : (A.deeper (envOfC "_law_inventory" (defScope sInv) s.heap.objs.size f cdv)).units + 1 < cLine := by
      have z := hr.units
      omega
    refine ⟨_, pss_cons (ps_set (i := 2) nd rfl (.inl rfl) (pe_ix ix_list (pe_lst (pa_cons pe_int (pa_cons pe_int (pa_cons pe_int (pa_cons pe_int (pa_cons pe_int (pa_cons pe_int pa_nil))))))) (pe_call GD hr1 (by rfl) gD FD.kp bD .nil pass0 (pa_cons (pv 0) (pa_cons pe_int pa_nil))) (fun _ _ => rfl)))
      (pss_cons (ps_set (i := 3) nd rfl (.inl rfl) (pe_slice sl_list (pe_call GS hr2 (by rfl) gS FS.kp bS .nil pass0 (pa_cons (pv 0) (pa_cons (pe_lst (pa_cons pe_str (pa_cons pe_str (pa_cons pe_str (pa_cons pe_str (pa_cons pe_str (pa_cons pe_str pa_nil))))))) pa_nil))) po_none (po_some (pv 2))))
      (pss_cons (ps_asg (pe_call GI hr (by rfl) gI FI.kp bI .nil pass0 (pa_cons (pv 0) (pa_cons (pv 1) (pa_cons (pv 3) pa_nil)))) (pg_tup rfl (pgs_cons (pg_name (i := 4) nd rfl (.inl rfl)) (pgs_cons (pg_name (i := 5) nd rfl (.inr rfl)) pgs_nil))))
      (pss_cons (ps_set (i := 6) nd rfl (.inr rfl) (pe_lst (pa_cons pe_str (pa_cons pe_str (pa_cons pe_str (pa_cons pe_str (pa_cons pe_str (pa_cons pe_str (pa_cons pe_str (pa_cons pe_str (pa_cons pe_str (pa_cons pe_str (pa_cons pe_str (pa_cons pe_str (pa_cons pe_str (pa_cons pe_str (pa_cons pe_str (pa_cons pe_str pa_nil))))))))))))))))))
      (pss_cons (ps_set (i := 6) nd rfl (.inr rfl) (pe_call GS hr2 (by rfl) gS FS.kp bS .nil pass0 (pa_cons (pv 0) (pa_cons (pe_op op_cat (pv 6) (pe_lst (pa_cons pe_str (pa_cons pe_str (pa_cons pe_str (pa_cons pe_str (pa_cons pe_str (pa_cons pe_str (pa_cons pe_str (pa_cons pe_str pa_nil)))))))))) pa_nil))))
      (pss_cons (ps_set (i := 7) nd rfl (.inr rfl) pe_dnewT)
      (pss_cons (ps_for PassesOwn.never rfl (pi_range1 (by rfl) mr (pa_cons (pe_callB call_len_seq (by rfl) ml PySem.boot_len (pa_cons (pv 5) pa_nil)) pa_nil)) (pg_name (i := 8) nd rfl (.inl rfl))
        (pss_cons (ps_asg (pe_ix ix_tup (pe_ix ix_list (pv 5) (pv 8) (fun _ _ => rfl)) pe_int (fun _ _ => rfl)) (pg_tup rfl (pgs_cons (pg_name (i := 9) nd rfl (.inl rfl)) (pgs_cons (pg_name (i := 10) nd rfl (.inl rfl)) pgs_nil))))
        (pss_cons (ps_if (pt_cmpR (op_neD hr.units) (pv 9) pe_str (nomark _)) (pss_one (ps_set (i := 9) nd rfl (.inl rfl) (pe_ix ix_list (pv 6) (pv 9) (fun _ _ => rfl)))) pss_nil)
        (pss_one (ps_dput hu1 (pv 7) (pe_tup (pa_cons (pv 9) (pa_cons (pv 10) pa_nil))) (pe_ix ix_list (pv 6) (pv 8) (fun _ _ => rfl)) rfl)))))
      (pss_cons (ps_set (i := 11) nd rfl (.inl rfl) (pe_callB (SortD.cr_sortedData hr.units) (by rfl) ms (by decide +kernel) (pa_cons
          (pe_lc (own := [("_law_k", 8)]) (g := gName 8) (tt := tYes) (te := tTup (tCons (tOp (rIxL K) (tVar 6) (tVar 8)) (tCons (tOp (rIxT K) (tOp (rIxL K) (tVar 5) (tVar 8)) (tC (.int 0))) (tCons (tOp (rIxT K) (tOp (rIxL K) (tVar 5) (tVar 8)) (tC (.int 1))) tNil)))) (by rfl) nd (pi_range1 (by rfl) mr (pa_cons (pe_callB call_len_seq (by rfl) ml PySem.boot_len (pa_cons (pv 5) pa_nil)) pa_nil))
            (blkOk_by (own := [("_law_k", 8)]) (N := nInv) (sc := defScope sInv) (by decide +kernel)) (fun _ _ _ _ _ => pg_name (i := 8) nd rfl (.inl rfl)) (fun _ _ _ _ _ => pts_nil)
            (fun _ _ _ _ _ => pe_tup (pa_cons (pe_ix ix_list (pv 6) (pv 8) (fun _ _ => rfl)) (pa_cons (pe_ix ix_tup (pe_ix ix_list (pv 5) (pv 8) (fun _ _ => rfl)) pe_int (fun _ _ => rfl)) (pa_cons (pe_ix ix_tup (pe_ix ix_list (pv 5) (pv 8) (fun _ _ => rfl)) pe_int (fun _ _ => rfl)) pa_nil))))) pa_nil)))
      (pss_one (ps_ret (pe_tup (pa_cons (pe_tup (pa_cons (pv 4) (pa_cons (pv 11) pa_nil))) (pa_cons
          (pe_lc (own := [("_law_place", 12)]) (g := gName 12) (tt := tYes) (te := tDGet (tVar 7) (tVar 12)) (by rfl) nd (pi_list (pe_callB (SortD.cr_sortedK rfl hr.units) (by rfl) ms (by decide +kernel) (pa_cons (pv 7) pa_nil)))
            (blkOk_by (own := [("_law_place", 12)]) (N := nInv) (sc := defScope sInv) (by decide +kernel)) (fun _ _ _ _ _ => pg_name (i := 12) nd rfl (.inl rfl)) (fun _ _ _ _ _ => pts_nil)
            (fun _ _ _ _ _ => pe_dget hu1 (pv 7) (pv 12) (fun _ _ => rfl))) pa_nil)))))))))))), ?_⟩
    cases ht with
    | @cons x1 _ _ _ hx1 tl =>
    cases tl
    have hl : x1 = .int (limit : Int) := by
      cases hx1
      rfl
    subst hl

    -- how many kinds
    refine Gn.q_asg (n := 1) (P := fun d => ∃ M : Nat, d = .int (M : Int) ∧ 1 ≤ M ∧ M ≤ 6) (Gn.EvG.weak (Gn.op (Gn.pure (Dl.lst (Dl.cons Dl.int (Dl.cons Dl.int (Dl.cons Dl.int (Dl.cons Dl.int (Dl.cons Dl.int (Dl.cons Dl.int Dl.nil)))))) (by decide))) (Gn.drawM (S := S) (i := 0) (M := 6) (σ := start nInv [V.ref S.1, V.int (limit : Int)]) (F := F) rfl (Gn.pure Dl.int) (by decide) (by decide)) (fun d1 d2 h1 h2 => by
          obtain ⟨j, rfl, hj⟩ := h2
          subst h1
          match j, hj with
          | 0, _ => exact ⟨.int 1, ⟨1, rfl, by decide, by decide⟩, Dl.ixL rfl⟩
          | 1, _ => exact ⟨.int 2, ⟨2, rfl, by decide, by decide⟩, Dl.ixL rfl⟩
          | 2, _ => exact ⟨.int 2, ⟨2, rfl, by decide, by decide⟩, Dl.ixL rfl⟩
          | 3, _ => exact ⟨.int 3, ⟨3, rfl, by decide, by decide⟩, Dl.ixL rfl⟩
          | 4, _ => exact ⟨.int 4, ⟨4, rfl, by decide, by decide⟩, Dl.ixL rfl⟩
          | 5, _ => exact ⟨.int 6, ⟨6, rfl, by decide, by decide⟩, Dl.ixL rfl⟩)) (by decide) (fun d h => h)) at0 (by omega) fun xc d F1 H1 t1 s1 a1 l1 tc hc => ?_
    obtain ⟨M, rfl, M1, M6⟩ := hc
    -- the kinds
    refine Gn.q_asg (n := 30) (P := fun d => ∃ ks : List Str, d = .list (ks.map .str) ∧ 0 < ks.length ∧ ks.length ≤ 6 ∧ ∀ k ∈ ks, k ∈ kinds6) (Gn.EvG.weak (Gn.slL (n := 30) (P := fun d => ∃ zs : List Str, d = .list (zs.map .str) ∧ zs.length = 6 ∧ ∀ z ∈ zs, z ∈ kinds6) (lo := none) (hi := some (M : Int)) (Gn.EvG.weak (Gn.callG (i := 0) (ok := fun ds => ∃ es, ds = [.list es] ∧ es.length ≤ 30) rfl (Gn.cons (Gn.pure (Dl.is_ (d := .list (kinds6.map .str)) (Dl.lst (Dl.cons Dl.str (Dl.cons Dl.str (Dl.cons Dl.str (Dl.cons Dl.str (Dl.cons Dl.str (Dl.cons Dl.str Dl.nil)))))) (by decide)) rfl)) Gn.nil) (fun ds h => by
          obtain ⟨d, es, rfl, rfl, rfl⟩ := h
          exact ⟨_, rfl, by decide⟩)) (by decide) (fun d h => by
          obtain ⟨ds, ⟨d1, es, rfl, rfl, rfl⟩, es2, fs, e1, rfl, pm⟩ := h
          cases e1
          obtain ⟨zs, rfl, len, hz⟩ := perm_strs pm
          exact ⟨zs, rfl, len, hz⟩)) Dl.noPart (Dl.part (Dl.var rfl tc)) (fun d h => by
          obtain ⟨zs, rfl, len, hz⟩ := h
          refine ⟨_, rfl, zs.take M, ?_, ?_, ?_, fun k hk => hz k (List.mem_of_mem_take hk)⟩
          · unfold Dl.cutD
            rw [HT.sIx_none, HT.sIx_nat, List.drop_zero, Nat.sub_zero, List.length_map, len, ← List.map_take, Nat.min_eq_left M6]
          · rw [List.length_take]
            omega
          · rw [List.length_take]
            omega)) (by decide) (fun d h => h)) a1 (by omega) fun xk d F2 H2 t2 s2 a2 l2 tk hk => ?_
    obtain ⟨ks, rfl, k0, k6, hks⟩ := hk
    -- roots and what is built
    refine Gn.q_tup (n := 250) (P := fun d => ∃ (roots : List Str) (st : ISt), d = .tuple [.tuple (roots.map .str), .list (st.bs.map encB)] ∧ Reach ks limit roots st ∧ st.os = [] ∧ 1 ≤ roots.length ∧ roots.length ≤ 4 ∧ ∀ r ∈ roots, r ∈ ks) (Gn.EvG.weak (Gn.callG (i := 0) (ok := okItems) rfl (Gn.cons (Gn.pure (Dl.var rfl (.int _))) (Gn.cons (Gn.pure (Dl.var rfl tk)) Gn.nil)) (fun ds h => by
          obtain ⟨d, es, rfl, rfl, d2, es2, rfl, rfl, rfl⟩ := h
          exact ⟨limit, ks, rfl, L4, by omega, k0, by omega, fun k hk => lay6 k (hks k hk)⟩)) (by decide) (fun d h => by
          obtain ⟨ds, ⟨d1, es, rfl, rfl, d2, es2, rfl, rfl, rfl⟩, limit', ks', roots, st, e1, rfl, rc, e0, r1, r4, hr⟩ := h
          obtain ⟨e2, e3⟩ := List.cons.inj e1
          obtain ⟨e4, _⟩ := List.cons.inj e3
          have e5 := PyData.int.inj e2
          have e6 : limit = limit' := by omega
          subst e6
          have e7 := PyData.list.inj e4
          have e8 : ks = ks' := List.map_inj_right (fun a b e => PyData.str.inj e) |>.mp e7
          subst e8
          exact ⟨roots, st, rfl, rc, e0, r1, r4, hr⟩)) (fun d h => by
          obtain ⟨roots, st, rfl, _⟩ := h
          exact ⟨_, rfl, rfl⟩) a2 (by omega) fun xs ds F3 H3 t3 s3 a3 l3 txs hrb => ?_
    obtain ⟨roots, st, e1, rc, e0, r1, r4, hr⟩ := hrb
    cases e1
    cases txs with
    | @cons xr _ _ _ tr tl =>
    cases tl with
    | @cons xb _ _ _ tb tl =>
    cases tl
    refine ⟨_, _, rfl, _, _, rfl, rfl, ?_⟩
    obtain ⟨_, len2, len3⟩ := rc.lens (by omega)
    obtain ⟨mem1, mem2⟩ := rc.mem hr
    have n24 : st.bs.length ≤ 24 := by omega
    have n1 : 1 ≤ st.bs.length := by
      rcases rc.grown with z | z
      · exact z
      · rw [e0, List.length_nil] at z
        omega
    obtain ⟨_, plcs⟩ := rc.plcs
    -- the names
    refine Dl.q_asg (F := F3) (Dl.is_ (d := .list (names16.map .str)) (Dl.lst (Dl.cons Dl.str (Dl.cons Dl.str (Dl.cons Dl.str (Dl.cons Dl.str (Dl.cons Dl.str (Dl.cons Dl.str (Dl.cons Dl.str (Dl.cons Dl.str (Dl.cons Dl.str (Dl.cons Dl.str (Dl.cons Dl.str (Dl.cons Dl.str (Dl.cons Dl.str (Dl.cons Dl.str (Dl.cons Dl.str (Dl.cons Dl.str Dl.nil)))))))))))))))) (by decide)) rfl) a3.i fun xn F4 H4 s4 tn => ?_
    have a4 := a3.step s4
    refine Gn.q_asg (n := 30) (P := fun d => ∃ zs : List Str, d = .list (zs.map .str) ∧ zs.length = 24 ∧ ∀ z ∈ zs, z ∈ names16 ++ names8) (Gn.EvG.weak (Gn.callG (i := 0) (ok := fun ds => ∃ es, ds = [.list es] ∧ es.length ≤ 30) rfl (Gn.cons (Gn.pure (Dl.is_ (d := .list ((names16 ++ names8).map .str)) (Dl.op (Dl.var rfl tn) (Dl.lst (Dl.cons Dl.str (Dl.cons Dl.str (Dl.cons Dl.str (Dl.cons Dl.str (Dl.cons Dl.str (Dl.cons Dl.str (Dl.cons Dl.str (Dl.cons Dl.str Dl.nil)))))))) (by decide)) (Dl.cat (by decide))) rfl)) Gn.nil) (fun ds h => by
          obtain ⟨d, es, rfl, rfl, rfl⟩ := h
          exact ⟨_, rfl, by decide⟩)) (by decide) (fun d h => by
          obtain ⟨ds, ⟨d1, es, rfl, rfl, rfl⟩, es2, fs, e1, rfl, pm⟩ := h
          cases e1
          obtain ⟨zs, rfl, len, hz⟩ := perm_strs pm
          exact ⟨zs, rfl, len, hz⟩)) a4 (by omega) fun xp d F5 H5 t5 s5 a5 l5 tp hp => ?_
    obtain ⟨ns, rfl, ns24, hns⟩ := hp
    have tb5 := (tb.mono s4.f).mono s5.f
    have tr5 := (tr.mono s4.f).mono s5.f
    have sg5 : Gn.Stg S F H F5 H5 := (((s1.trans s2).trans s3).trans (.of s4)).trans s5
    -- the places
    refine Gn.q_any fun p hp => ?_
    have fp : F5 p = none := Evl.fresh_back a5.i hp
    refine Dl.q_forR (n := (st.bs.length : Int)) (F := F5) (Dl.cons (Dl.is_ (Dl.call (Dl.cons (Dl.var rfl tb5) Dl.nil) Dl.lenL) (by rw [List.length_map])) Dl.nil) (a5.i.trans (Evl.Ex.new hp)) ⟨by omega, by omega⟩
      (fun i σ' H' => ∃ y8 y9 y10 F' kvs, σ' = [some (.ref S.1), some (.int (limit : Int)), some xc, some xk, some xr, some xb, some xp, some (.ref p), y8, y9, y10, none, none] ∧ Dl.Stp F5 H5 F' H' ∧ F' p = none ∧ H' p = some (.dT kvs) ∧ okKvs kvs ∧ kvs.length ≤ i) (fun F6 H6 s6 => ?_) (fun i σ' H' hi hP => ?_) (fun σ' H' hP => ?_)
    · have st0 : Dl.Stp F5 H5 F5 (upd H5 p (.dT [])) := .hid a5.i hp
      exact ⟨none, none, none, F6, [], rfl, st0.trans s6, s6.n p fp (by rw [upd_same]; exact fun z => nomatch z), s6.h _ _ upd_same, fun kv h => (by cases h), Nat.le_refl _⟩
    · obtain ⟨y8, y9, y10, F6, kvs, rfl, s6, fp6, hp6, okk, kl⟩ := hP
      have hi' : i < st.bs.length := by omega
      obtain ⟨b, hb⟩ : ∃ b, st.bs[i]? = some b := ⟨_, List.getElem?_eq_getElem hi'⟩
      have hbm := List.mem_of_getElem? hb
      have tb6 := tb5.mono s6.f
      have tp6 := tp.mono s6.f
      have hbD : (st.bs.map encB)[i]? = some (encB b) := by
        rw [List.getElem?_map, hb]
        rfl
      obtain ⟨od, j, eP, hod⟩ : ∃ (od : PyData) (j : Nat), encP b.plc = .tuple [od, .int (j : Int)] ∧ (od = .str "" ∨ ∃ m : Nat, od = .int (m : Int) ∧ m < ns.length) := by
        rcases eb : b.plc with ⟨o, j⟩
        cases o with
        | none => exact ⟨.str "", j, rfl, .inl rfl⟩
        | some m =>
          have z := plcs b hbm m (by rw [eb])
          exact ⟨.int (m : Int), j, rfl, .inr ⟨m, rfl, by omega⟩⟩
      refine Dl.q_tup (F := F6) (Dl.is_ (d := .tuple [od, .int (j : Int)]) (Dl.op (Dl.op (Dl.var rfl tb6) (Dl.var rfl (.int _)) (Dl.ixL hbD)) Dl.int (Dl.ixT (i := 2) (d := encP b.plc) rfl)) eP) rfl s6.i fun ws F7 H7 s7 hws => ?_
      cases hws with
      | @cons v1 _ _ _ hv1 tl =>
      cases tl with
      | @cons v2 _ _ _ hv2 tl =>
      cases tl
      cases hv2
      refine ⟨_, _, rfl, _, _, rfl, rfl, ?_⟩
      refine Gn.if_rest (fun σ' H8 => ∃ (o : Str) (F8 : Hp), σ' = [some (.ref S.1), some (.int (limit : Int)), some xc, some xk, some xr, some xb, some xp, some (.ref p), some (.int (i : Int)), some (.str o), some (.int (j : Int)), none, none] ∧ Dl.Stp F6 H' F8 H8) (fun G hG => ?_) (fun σ' H8 hR => ?_)
      · rcases hod with rfl | ⟨m, rfl, hm⟩
        · cases hv1
          refine (Dl.tis (Dl.test (Dl.op (Dl.var rfl (.str _)) Dl.str (Dl.neD (by decide +kernel) (by decide +kernel)))) (b := false) (by decide +kernel)) F7 H7 (Evl.Ex.refl _) s7.i _ fun F8 H8 s8 => ?_
          exact hG _ _ ⟨"", F8, rfl, s7.trans s8⟩
        · cases hv1
          refine (Dl.tis (Dl.test (Dl.op (Dl.var rfl (.int _)) Dl.str (Dl.neD (int_shaped _) (by decide +kernel)))) (b := true) (by simp [PyData.eqv])) F7 H7 (Evl.Ex.refl _) s7.i _ fun F8 H8 s8 => ?_
          rw [if_pos rfl]
          refine (Dl.op (Dl.var rfl (tp6.mono (s7.trans s8).f)) (Dl.var rfl (.int _)) (Dl.ixL (strs_at hm))) F8 H8 (Evl.Ex.refl _) s8.i _ fun x F9 H9 s9 tx => ?_
          cases tx
          exact hG _ _ ⟨_, F9, rfl, (s7.trans s8).trans s9⟩
      · obtain ⟨o, F8, rfl, s8⟩ := hR
        unfold sDPut
        refine (Dl.op (Dl.var rfl (tp6.mono s8.f)) (Dl.var rfl (.int _)) (Dl.ixL (strs_at (show i < ns.length by omega)))) F8 H8 (Evl.Ex.refl _) s8.i _ fun v F9 H9 s9 tv => ?_
        cases tv
        have s9' := s8.trans s9
        refine ⟨_, rfl, _, rfl, _, rfl, by show 2 ≤ sizeLine; decide, fun q9 hq9 => ?_⟩
        have st : Dl.Stp F9 H9 _ _ := .new (o := .tup [.str o, .int (j : Int)]) s9.i hq9
        have s10 := s9'.trans st
        have hp10 := s10.h _ _ hp6
        have fp10 := s10.n p fp6 (by rw [hp6]; exact fun z => nomatch z)
        have sL := sizeLine_eq
        refine ⟨p, _, rfl, DPut.t (k := [.inr o, .inl (j : Int)]) hp10 upd_same (by omega), ?_⟩
        refine ⟨_, _, _, _, _, rfl, (s6.trans s10).mut hp fp10, fp10, upd_same, okKvs_put okk ⟨o, _, rfl⟩ ⟨_, rfl⟩, ?_⟩
        have z := length_putK kvs [.inr o, .inl (j : Int)] (.str (ns.getD i ""))
        omega
    · obtain ⟨y8, y9, y10, F6, kvs, rfl, s6, fp6, hp6, okk, kl⟩ := hP
      have tb6 := tb5.mono s6.f
      have tp6 := tp.mono s6.f
      have hal := alike_its (ds := ((List.range st.bs.length).map (itmAt ns st.bs)).map encI) rfl
      refine Dl.q_asg (F := F6) (Dl.call (Dl.cons (Dl.is_ (d := .list (((List.range st.bs.length).map (itmAt ns st.bs)).map encI)) (Dl.lcR1 (n := (st.bs.length : Int)) (fun _ => true) (fun k => encI (itmAt ns st.bs k)) (Dl.cons (Dl.is_ (Dl.call (Dl.cons (Dl.var rfl tb6) Dl.nil) Dl.lenL) (by rw [List.length_map])) Dl.nil) ⟨by omega, by omega⟩ (fun _ => rfl) (fun _ _ _ _ => Dl.tyes) (fun i G e hi _ => by
          obtain ⟨b, hb⟩ : ∃ b, st.bs[i]? = some b := ⟨_, List.getElem?_eq_getElem (by omega)⟩
          have hbD : (st.bs.map encB)[i]? = some (encB b) := by
            rw [List.getElem?_map, hb]
            rfl
          exact Dl.is_ (Dl.tup (Dl.cons (Dl.op (Dl.var rfl (tp6.mono e)) (Dl.var rfl (.int _)) (Dl.ixL (strs_at (show i < ns.length by omega)))) (Dl.cons (Dl.op (Dl.op (Dl.var rfl (tb6.mono e)) (Dl.var rfl (.int _)) (Dl.ixL hbD)) Dl.int (Dl.ixT (i := 0) rfl)) (Dl.cons (Dl.op (Dl.op (Dl.var rfl (tb6.mono e)) (Dl.var rfl (.int _)) (Dl.ixL hbD)) Dl.int (Dl.ixT (i := 1) rfl)) Dl.nil))) (by show 3 ≤ 100000; decide)) (by rw [itmAt_of hb]; rfl)))
          (by rw [Dl.kept_all, List.map_map, Int.toNat_natCast]; rfl)) Dl.nil) (Dl.sorted hal.1 hal.2 (by rw [List.length_map, List.length_map, List.length_range]; omega) (fun d hd => by
          obtain ⟨a, _, rfl⟩ := List.mem_map.mp hd
          have z := depth_encI a
          omega))) s6.i fun xi F7 H7 s7 ti => ?_
      have pm := List.mergeSort_perm (((List.range st.bs.length).map (itmAt ns st.bs)).map encI) (PySem.W.dataLe false id)
      obtain ⟨its, eits, hits⟩ := its_ex (its := (List.range st.bs.length).map (itmAt ns st.bs)) (ds := (((List.range st.bs.length).map (itmAt ns st.bs)).map encI).mergeSort (PySem.W.dataLe false id)) fun d hd => pm.mem_iff.mp hd
      have lits : its.length = st.bs.length := by
        have z := pm.length_eq
        rw [eits, List.length_map, List.length_map, List.length_map, List.length_range] at z
        exact z
      rw [eits] at ti
      have s67 := s6.trans s7
      have hp7 := s7.h _ _ hp6
      have fp7 := s7.n p fp6 (by rw [hp6]; exact fun z => nomatch z)
      have atI : ∀ it ∈ its, ∃ b ∈ st.bs, ∃ k, k < ns.length ∧ it = ⟨ns.getD k "", b.kind, b.slots⟩ := fun it hit => by
        obtain ⟨k, hk, rfl⟩ := List.mem_map.mp (hits it hit)
        have hk' := List.mem_range.mp hk
        exact ⟨st.bs[k], List.getElem_mem hk', k, by omega, itmAt_of (List.getElem?_eq_getElem hk')⟩
      have iok : InvOk roots its := by
        refine ⟨r1, r4, fun r h => hks r (hr r h), by omega, by omega, fun it h => ?_, fun it h => ?_, fun it h => ?_, fun it h => ?_⟩
        · obtain ⟨b, hb, k, hk, rfl⟩ := atI it h
          exact hns _ (getD_mem hk)
        · obtain ⟨b, hb, k, hk, rfl⟩ := atI it h
          exact hks _ (mem2 b hb).1
        · obtain ⟨b, hb, k, hk, rfl⟩ := atI it h
          exact len3 b hb
        · obtain ⟨b, hb, k, hk, rfl⟩ := atI it h
          exact fun z hz => hks _ ((mem2 b hb).2 z hz)
      -- what is handed back
      refine Gn.ret_tup ?_
      refine (Dl.tup (Dl.cons (Dl.var rfl (tr5.mono s67.f)) (Dl.cons (Dl.var rfl ti) Dl.nil)) (by show 2 ≤ 100000; decide)) F7 H7 (Evl.Ex.refl _) s7.i _ fun xt F8 H8 s8 tt => ?_
      have hp8 := s8.h _ _ hp7
      have al := kvs_alike okk
      refine ⟨_, rfl, p, kvs, rfl, .inl hp8, al.1, al.2, fun l bks hl ik => ?_⟩
      obtain ⟨zs, zl, hz⟩ := each_ex (R := fun (x : V) z => ∃ b kv, x = .ref b ∧ H8 b = some (.tup (kv.map kV)) ∧ valV kvs kv = some (.str z)) (xs := (((bks.map V.ref).zip (kvs.map fun p => SortD.rowD p.1)).mergeSort (PySem.W.dataLe false Prod.snd)).map Prod.fst) fun x hx => by
        obtain ⟨pr, hpr, rfl⟩ := List.mem_map.mp hx
        have h1 := (List.of_mem_zip (a := pr.1) (b := pr.2) (List.mem_mergeSort.mp hpr)).1
        obtain ⟨b, hb, e⟩ := List.mem_map.mp h1
        obtain ⟨kv, hkv, hH⟩ := keys_mem ik b hb
        obtain ⟨kv', hkv', hv⟩ := valV_mem hkv
        obtain ⟨_, z, ez⟩ := okk kv' hkv'
        exact ⟨z, b, kv.1, e.symm, hH, by rw [hv, ez]⟩
      have xl : ((((bks.map V.ref).zip (kvs.map fun p => SortD.rowD p.1)).mergeSort (PySem.W.dataLe false Prod.snd)).map Prod.fst).length ≤ 24 := by
        rw [List.length_map, List.length_mergeSort, List.length_zip, List.length_map, List.length_map]
        omega
      generalize (((bks.map V.ref).zip (kvs.map fun p => SortD.rowD p.1)).mergeSort (PySem.W.dataLe false Prod.snd)).map Prod.fst = xs at zl hz xl ⊢
      have st9 : Dl.Stp F8 H8 F8 (upd H8 l (.lst xs)) := .hid s8.i hl
      refine ⟨l, rfl, ⟨xs, .inl (.inl upd_same)⟩, fun q9 hq9 => lc_list (xs := xs) (Dl.CW F8 (upd H8 l (.lst xs)) (fun _ => true) (fun i => .str (zs.getD i "")) q9) (Dl.cw_start st9.i hq9) (fun i H' _ w => ?_) (fun i x H' hi w => ⟨rfl, ?_⟩) (fun H' w => ?_)⟩
      · obtain ⟨_, F2, ys, e0, e1, e2, _⟩ := w
        exact .inl (.inl (e2 _ _ upd_same))
      · refine Gn.yes_in ?_
        have il : i < xs.length := (List.getElem?_eq_some_iff.mp hi).1
        refine Dl.cw_turnH w (by omega) fun F9 H9 e0 e1 e2 Q9 k9 => ?_
        obtain ⟨b, kv, rfl, hb, hv⟩ := hz i x hi
        have e8 : Evl.Ex H8 H9 := st9.h.trans e2
        refine ⟨_, rfl, _, rfl, p, .str (zs.getD i ""), rfl, ?_, k9 _ F9 H9 (.refl e1) (.str _)⟩
        rw [← hv]
        exact DGet.t (e8 _ _ hp8) (e8 _ _ hb)
      · obtain ⟨F9, s9, t9⟩ := Dl.cw_end w
        refine ⟨by show 2 ≤ sizeLine; decide, fun q10 hq10 => ?_⟩
        have st10 : Dl.Stp F9 H' _ _ := .new (o := .tup [xt, .ref q9]) s9.i hq10
        have s5f := (((s67.trans s8).trans st9).trans s9).trans st10
        exact q _ _ _ _ t5 (sg5.trans (.of s5f)) (a5.step s5f) (by omega) (.tup upd_same (.cons (tt.mono ((st9.f.trans s9.f).trans st10.f)) (.cons (t9.mono st10.f) .nil))) ⟨roots, its, _, rfl, iok⟩
end
end Lw
set_option Elab.async false
set_option linter.all false
set_option maxRecDepth 100000
set_option maxHeartbeats 4000000
/-! data of bounded width at each depth: enough for all that is asked of a drawn value -/
namespace Dl
open PySem PySem.Spec PyProof.Rows L2
mutual
def nice : D → List Nat → Bool
  | .none, _ => true
  | .bool _, _ => true
  | .int i, _ => decide (i.natAbs < 100)
  | .str z, _ => decide (z.length ≤ 12) && PyData.strOk z
  | .list ds, ms => match ms with
    | [] => false
    | m :: ms => decide (ds.length ≤ m) && niceAll ds ms
  | .tuple ds, ms => match ms with
    | [] => false
    | m :: ms => decide (ds.length ≤ m) && niceAll ds ms
  | .dict _, _ => false
def niceAll : List D → List Nat → Bool
  | [], _ => true
  | d :: ds, ms => nice d ms && niceAll ds ms
end
theorem nice_list {ds : List D} {m : Nat} {ms : List Nat} : nice (.list ds) (m :: ms) = (decide (ds.length ≤ m) && niceAll ds ms) := rfl
theorem nice_tuple {ds : List D} {m : Nat} {ms : List Nat} : nice (.tuple ds) (m :: ms) = (decide (ds.length ≤ m) && niceAll ds ms) := rfl
theorem niceAll_nil {ms : List Nat} : niceAll [] ms = true := rfl
theorem niceAll_cons {d : D} {ds : List D} {ms : List Nat} : niceAll (d :: ds) ms = (nice d ms && niceAll ds ms) := rfl
theorem niceAll_iff {ms : List Nat} : ∀ {ds : List D}, niceAll ds ms = true ↔ ∀ d ∈ ds, nice d ms = true
  | [] => by simp [niceAll_nil]
  | d :: ds => by
    rw [niceAll_cons, Bool.and_eq_true, niceAll_iff (ds := ds)]
    simp
theorem nice_row {ds : List D} {m : Nat} {ms : List Nat} (h : ds.length ≤ m) (a : ∀ d ∈ ds, nice d ms = true) : niceAll ds ms = true ∧ nice (.list ds) (m :: ms) = true ∧ nice (.tuple ds) (m :: ms) = true := by
  have z := niceAll_iff.mpr a
  refine ⟨z, ?_, ?_⟩
  · rw [nice_list, z, decide_eq_true h]
    rfl
  · rw [nice_tuple, z, decide_eq_true h]
    rfl
theorem nice_of_list {ds : List D} {m : Nat} {ms : List Nat} (h : nice (.list ds) (m :: ms) = true) : ds.length ≤ m ∧ ∀ d ∈ ds, nice d ms = true := by
  rw [nice_list, Bool.and_eq_true] at h
  exact ⟨of_decide_eq_true h.1, niceAll_iff.mp h.2⟩
theorem nice_of_tuple {ds : List D} {m : Nat} {ms : List Nat} (h : nice (.tuple ds) (m :: ms) = true) : ds.length ≤ m ∧ ∀ d ∈ ds, nice d ms = true := by
  rw [nice_tuple, Bool.and_eq_true] at h
  exact ⟨of_decide_eq_true h.1, niceAll_iff.mp h.2⟩
/-- longer rows allowed -/
def wider : List Nat → List Nat → Bool
  | [], _ => true
  | m :: ms, n :: ns => decide (m ≤ n) && wider ms ns
  | _ :: _, [] => false
mutual
theorem nice_wider : ∀ {d : D} {ms ns : List Nat}, nice d ms = true → wider ms ns = true → nice d ns = true
  | .none, _, _, _, _ => rfl
  | .bool _, _, _, _, _ => rfl
  | .int _, _, _, h, _ => h
  | .str _, _, _, h, _ => h
  | .list ds, [], _, h, _ => by cases h
  | .list ds, m :: ms, [], _, w => by cases w
  | .list ds, m :: ms, n :: ns, h, w => by
    have w' : (decide (m ≤ n) && wider ms ns) = true := w
    rw [Bool.and_eq_true] at w'
    rw [nice_list, Bool.and_eq_true] at h ⊢
    exact ⟨decide_eq_true (Nat.le_trans (of_decide_eq_true h.1) (of_decide_eq_true w'.1)), niceAll_wider h.2 w'.2⟩
  | .tuple ds, [], _, h, _ => by cases h
  | .tuple ds, m :: ms, [], _, w => by cases w
  | .tuple ds, m :: ms, n :: ns, h, w => by
    have w' : (decide (m ≤ n) && wider ms ns) = true := w
    rw [Bool.and_eq_true] at w'
    rw [nice_tuple, Bool.and_eq_true] at h ⊢
    exact ⟨decide_eq_true (Nat.le_trans (of_decide_eq_true h.1) (of_decide_eq_true w'.1)), niceAll_wider h.2 w'.2⟩
  | .dict _, _, _, h, _ => by cases h
theorem niceAll_wider : ∀ {ds : List D} {ms ns : List Nat}, niceAll ds ms = true → wider ms ns = true → niceAll ds ns = true
  | [], _, _, _, _ => rfl
  | d :: ds, ms, ns, h, w => by
    rw [niceAll_cons, Bool.and_eq_true] at h ⊢
    exact ⟨nice_wider h.1 w, niceAll_wider h.2 w⟩
end
/-- what the widths sum up to -/
def wsum : List Nat → Nat
  | [] => 16
  | m :: ms => m * (wsum ms + 1) + 16
theorem shown_two {i : Int} (h : i.natAbs < 100) : decide ((PyData.shown (.int i)).length ≤ 13) = true := by
  have z : ∀ n : Nat, n < 100 → decide ((PyData.shown (.int (n : Int))).length ≤ 13) = true ∧ decide ((PyData.shown (.int (-(n : Int)))).length ≤ 13) = true := by decide +kernel
  rcases Int.natAbs_eq i with e | e
  · rw [e]
    exact (z _ h).1
  · rw [e]
    exact (z _ h).2
theorem log_two {n : Nat} (h : n < 100) : n.log2 < 7 := by
  have z : ∀ n : Nat, n < 100 → n.log2 < 7 := by decide +kernel
  exact z n h
theorem wsum_16 : ∀ ms : List Nat, 16 ≤ wsum ms
  | [] => Nat.le_refl _
  | m :: ms => Nat.le_add_left _ _
abbrev Facts (d : D) (ms : List Nat) : Prop := fit d = true ∧ d.depth ≤ ms.length ∧ d.intsShort 13 = true ∧ d.showable = true ∧ d.weight ≤ wsum ms
abbrev FactsAll (ds : List D) (ms : List Nat) : Prop := fits ds = true ∧ PyData.depthAll ds ≤ ms.length ∧ PyData.intsShortAll 13 ds = true ∧ PyData.showableAll ds = true ∧ PyData.weightAll ds ≤ ds.length * (wsum ms + 1)
abbrev narrow (ms : List Nat) : Bool := ms.all fun m => decide (m ≤ 1000)
theorem row_facts {ds : List D} {m : Nat} {ms : List Nat} (l : ds.length ≤ m) (hm : m ≤ 1000) (f : FactsAll ds ms) : Facts (.list ds) (m :: ms) ∧ Facts (.tuple ds) (m :: ms) := by
  obtain ⟨f1, f2, f3, f4, f5⟩ := f
  have w : PyData.weightAll ds ≤ wsum (m :: ms) := by
    have z : ds.length * (wsum ms + 1) ≤ m * (wsum ms + 1) := Nat.mul_le_mul_right _ l
    show _ ≤ m * (wsum ms + 1) + 16
    omega
  have g : (decide (ds.length ≤ 1000) && fits ds) = true := by
    rw [f1, decide_eq_true (Nat.le_trans l hm)]
    rfl
  have dl : PyData.depthAll ds + 1 ≤ (m :: ms).length := by
    rw [List.length_cons]
    omega
  refine ⟨⟨g, ?_, ?_, ?_, ?_⟩, ⟨g, ?_, ?_, ?_, ?_⟩⟩
  · simpa only [PyData.depth] using dl
  · simpa only [PyData.intsShort] using f3
  · simpa only [PyData.showable] using f4
  · simpa only [PyData.weight] using w
  · simpa only [PyData.depth] using dl
  · simpa only [PyData.intsShort] using f3
  · simpa only [PyData.showable] using f4
  · simpa only [PyData.weight] using w
mutual
theorem nice_facts : ∀ {d : D} {ms : List Nat}, nice d ms = true → narrow ms = true → Facts d ms
  | .none, ms, _, _ => ⟨rfl, by simp [PyData.depth], rfl, rfl, by simp [PyData.weight]⟩
  | .bool _, ms, _, _ => ⟨rfl, by simp [PyData.depth], rfl, rfl, by simp [PyData.weight]⟩
  | .int i, ms, h, _ => by
    have h' : i.natAbs < 100 := of_decide_eq_true h
    have z := log_two h'
    have y := wsum_16 ms
    refine ⟨rfl, by simp [PyData.depth], shown_two h', decide_eq_true (by omega), ?_⟩
    simp only [PyData.weight]
    split <;> omega
  | .str x, ms, h, _ => by
    obtain ⟨h1, h2⟩ := Bool.and_eq_true_iff.mp (show (decide (x.length ≤ 12) && PyData.strOk x) = true from h)
    have h1' : x.length ≤ 12 := of_decide_eq_true h1
    have y := wsum_16 ms
    refine ⟨?_, by simp [PyData.depth], rfl, rfl, ?_⟩
    · show (decide (x.length ≤ 1000) && PyData.strOk x) = true
      rw [h2, decide_eq_true (by omega)]
      rfl
    · simp only [PyData.weight]
      have e : x.cps.size = x.length := rfl
      omega
  | .list ds, [], h, _ => by cases h
  | .list ds, m :: ms, h, n => by
    rw [nice_list, Bool.and_eq_true] at h
    have n' : (decide (m ≤ 1000) && narrow ms) = true := n
    rw [Bool.and_eq_true] at n'
    exact (row_facts (of_decide_eq_true h.1) (of_decide_eq_true n'.1) (niceAll_facts h.2 n'.2)).1
  | .tuple ds, [], h, _ => by cases h
  | .tuple ds, m :: ms, h, n => by
    rw [nice_tuple, Bool.and_eq_true] at h
    have n' : (decide (m ≤ 1000) && narrow ms) = true := n
    rw [Bool.and_eq_true] at n'
    exact (row_facts (of_decide_eq_true h.1) (of_decide_eq_true n'.1) (niceAll_facts h.2 n'.2)).2
  | .dict _, _, h, _ => by cases h
theorem niceAll_facts : ∀ {ds : List D} {ms : List Nat}, niceAll ds ms = true → narrow ms = true → FactsAll ds ms
  | [], ms, _, _ => ⟨rfl, by simp [PyData.depthAll], rfl, rfl, by simp [PyData.weightAll]⟩
  | d :: ds, ms, h, n => by
    rw [niceAll_cons, Bool.and_eq_true] at h
    obtain ⟨a1, a2, a3, a4, a5⟩ := nice_facts h.1 n
    obtain ⟨b1, b2, b3, b4, b5⟩ := niceAll_facts h.2 n
    refine ⟨?_, ?_, ?_, ?_, ?_⟩
    · show (fit d && fits ds) = true
      rw [a1, b1]
      rfl
    · simp only [PyData.depthAll]
      omega
    · simp only [PyData.intsShortAll, a3, b3, Bool.and_self]
    · simp only [PyData.showableAll, a4, b4, Bool.and_self]
    · simp only [PyData.weightAll, List.length_cons]
      rw [Nat.succ_mul]
      omega
end
theorem cutD_mem {ds : List D} {lo hi : Option Int} {d : D} (h : d ∈ cutD ds lo hi) : d ∈ ds := by
  unfold cutD at h
  exact List.mem_of_mem_drop (List.mem_of_mem_take h)
theorem cutD_len {ds : List D} {lo hi : Option Int} : (cutD ds lo hi).length ≤ ds.length := by
  unfold cutD
  rw [List.length_take, List.length_drop]
  omega
end Dl
set_option Elab.async false
set_option linter.all false
set_option maxRecDepth 100000
set_option maxHeartbeats 4000000
/-! tuple * 1 is the tuple itself; tuple * number, 1 to 1,000, of data -/
namespace L2
open PySem PySem.Spec PyProof.Rows
theorem tuple_mulOne (l : Addr) (items : Array Value) (n : Nat) (dd : Option Addr) (sl : Array (Option Value)) (x : Int) (u : Tok) (c0 : (decide (x < -(2 ^ 63)) || decide (x ≥ 2 ^ 63)) = false) (c1 : (items.isEmpty || x == 1) = true) :
    Meets (Builtin.«tuple.__mul__» ⟨[.ref l, .int x u], []⟩) (fun _ R s => s.heap.get? l = some { cls := .type "tuple", dict := dd, data := .seq items n, slots := sl } ∧
      R (.ok (.ret (Value.ref l))) s) :=
  .of_wp fun prog w A R s h => by
    obtain ⟨hp, g, d, tk, os⟩ := s
    obtain ⟨hl, h⟩ := h
    have f1 := AutoSeq1.idx_int
    wp_walk using wpAny_loadPart' hl
    repeat (first
      | (refine wpAny_ite_false (decide_eq_false (by rw [c0]; exact Bool.false_ne_true)) ?_; wp_walk using wpAny_loadPart' hl)
      | (refine wpAny_ite_true (decide_eq_true c1) ?_; wp_walk using wpAny_loadPart' hl))
    exact ⟨_, rfl, h⟩
def rRepO (K : PySem.W.Frag) : R2 := fun x y H Q => ∃ l k xs, x = .ref l ∧ y = .int k ∧ SqT K H l xs ∧ xs ≠ [] ∧ 1 ≤ k ∧ k ≤ 1000 ∧ xs.length ≤ 1000 ∧ (k = 1 → Q (.ref l) H) ∧ (2 ≤ k → ∀ p, H p = none → Q (.ref p) (upd H p (.tup (List.replicate k.toNat xs).flatten)))
theorem op_repO {X : Cx} : OpR X (binaryOp .Mult) (rRepO X.K) := by
  intro pins s σ H x y v u Q I rx ry h
  obtain ⟨l, k, xs, rfl, rfl, hT, hne, h1, h2, hz, q1, q2⟩ := h
  by_cases e : k = 1
  · subst e
    cases rx
    obtain ⟨t, rfl⟩ := ry
    obtain ⟨its, r, ⟨⟨cls, dd, data, sl⟩, ho, hc, n, hd⟩, hs⟩ := I.tuple hT
    simp only at hc hd
    subst hc hd
    refine wpAny_binaryOp_repeat_ref (T := "tuple") (U := "int") (by decide) ⟨_, ho, rfl⟩ (fun s' => typeIs_int s' 1 t) noFill_tuple_mul F.fills_int_mul F.slot_int_rmul repeat_tuple F.slot_int_index.lookup
      (call_meets F.slot_int_rmul (typeIs_int s 1 t) F.entry_int_rmul (F.args_int_rmul_2 _ _) (int_rmul_tuple 1 t l its.toArray n dd sl)
        ⟨ho, rfl, ⟨_, ho, rfl⟩, call_meets F.slot_tuple_mul ⟨_, ho, rfl⟩ F.entry_tuple_mul (F.args_tuple_mul_2 _ _) (tuple_mulOne l its.toArray n dd sl 1 t (by decide) (by rw [Bool.or_eq_true]; exact .inr rfl)) ⟨ho, ?_⟩⟩)
    exact ⟨.ref l, H, I, rfl, q1 rfl⟩
  · exact op_repT pins s σ H _ _ v u Q I rx ry ⟨l, k, xs, rfl, rfl, hT, hne, by omega, h2, hz, q2 (by omega)⟩
end L2
namespace Dl
open PySem PySem.Spec PyProof.Rows L2
theorem repO {K : PySem.W.Frag} {ds : List D} {k : Int} (h0 : ds ≠ []) (h1 : 1 ≤ k ∧ k ≤ 1000) (hz : ds.length ≤ 1000) : RV (rRepO K) (.tuple ds) (.int k) (.tuple (List.replicate k.toNat ds).flatten) := fun F1 H1 e x y hx hy Q q => by
  cases hy
  cases hx with
  | @tup a xs _ g1 t1 =>
    refine ⟨a, k, xs, rfl, rfl, .inl (.inl (e _ _ g1)), fun z => ?_, h1.1, h1.2, by rw [t1.length]; exact hz, fun z => ?_, fun _ p hp => ?_⟩
    · subst z
      cases t1
      exact h0 rfl
    · subst z
      have e1 : (List.replicate (1 : Int).toNat ds).flatten = ds := by
        show (List.replicate 1 ds).flatten = ds
        simp
      rw [e1] at q
      exact q _ F1 H1 (.refl e) (.tup g1 t1)
    · have st : Stp F1 H1 _ _ := .new (o := .tup (List.replicate k.toNat xs).flatten) e hp
      exact q _ _ _ st (.tup upd_same ((t1.rep k.toNat).mono st.f))
end Dl
set_option Elab.async false
set_option linter.all false
set_option maxRecDepth 100000
set_option maxHeartbeats 4000000
set_option exponentiation.threshold 10000
namespace Lw
open PySem PySem.Spec PyProof.Rows L2
abbrev sMutI : Stmt := topS 35
abbrev nMutI : List Str := ["_law_source_here", "_law_one", "_law_name", "_law_kind", "_law_slots", "_law_labels", "_law_label", "_law_subset"]
theorem scMutI : FnScope nMutI ["_law_source_here", "_law_one"] (defScope sMutI) := ⟨rfl, rfl, rfl, by decide +kernel, rfl, by decide +kernel, by decide +kernel⟩
structure OkItm (it : Itm) : Prop where
  nm : Dl.nice (.str it.name) [] = true
  kd : Dl.nice (.str it.kind) [] = true
  s4 : it.slots.length ≤ 4
  sk : ∀ z ∈ it.slots, Dl.nice (.str z) [] = true
theorem nice_names : ∀ z ∈ names16 ++ names8, Dl.nice (.str z) [] = true := by decide +kernel
theorem nice_kinds : ∀ z ∈ kinds6, Dl.nice (.str z) [] = true := by decide +kernel
theorem InvOk.itm {roots : List Str} {its : List Itm} (h : InvOk roots its) : ∀ i ∈ its, OkItm i := fun i hi => ⟨nice_names _ (h.nm i hi), nice_kinds _ (h.kd i hi), h.s4 i hi, fun z hz => nice_kinds z (h.sk i hi z hz)⟩
theorem nice_strs {zs : List Str} {n : Nat} {ms : List Nat} (h : ∀ z ∈ zs, Dl.nice (.str z) [] = true) : ∀ d ∈ zs.map PyData.str, Dl.nice d ms = true := fun d hd => by
  obtain ⟨z, hz, rfl⟩ := List.mem_map.mp hd
  exact h z hz
theorem OkItm.nice {it : Itm} (h : OkItm it) : Dl.nice (encI it) [6, 12, 6] = true := by
  have r := (Dl.nice_row (m := 12) (ms := [6]) (ds := it.slots.map .str) (by rw [List.length_map]; have := h.s4; omega) (nice_strs (n := 0) h.sk)).2.2
  have a : Dl.nice (.str it.name) [12, 6] = true := h.nm
  have b : Dl.nice (.str it.kind) [12, 6] = true := h.kd
  unfold encI
  rw [Dl.nice_tuple, Dl.niceAll_cons, Dl.niceAll_cons, Dl.niceAll_cons, Dl.niceAll_nil, a, b, r]
  rfl
abbrev labelsD : List PyData := [.str "", .str "A", .str "ninesigns", .str "a b", .none, .int 7, .tuple [.str "a"], .list [.str "a"], .bool true, .str "a1", .str "zzz", .str "a", .str "aB", .str "{", .str "`", .str "a\n", .str "a_"]
theorem nice_labels : ∀ d ∈ labelsD, Dl.nice d [6] = true := by decide +kernel
theorem niceAll_app {a b : List PyData} {ms : List Nat} (h1 : Dl.niceAll a ms = true) (h2 : Dl.niceAll b ms = true) : Dl.niceAll (a ++ b) ms = true := Dl.niceAll_iff.mpr fun d hd => by
  rcases List.mem_append.mp hd with z | z
  · exact Dl.niceAll_iff.mp h1 d z
  · exact Dl.niceAll_iff.mp h2 d z
abbrev okMutI (ds : List PyData) : Prop := ∃ it : Itm, ds = [encI it] ∧ OkItm it
abbrev spMutI : Sp := Gn.spG 2 okMutI fun _ d => Dl.nice d [6, 12, 6] = true
section
variable {P : Program} {w : World} {K : PySem.W.Frag} {mg : Str → Option Value} {base : Heap}
theorem ok_mutI {f fP : Addr} {fd fdP : FuncData} (F : Fun K "_law_mutated_item" "_law_mutated_item" sMutI f fd)
    (FP : Fun K "_law_pick" "_law_pick" sPick fP fdP) (bP : Binds K fdP ["_law_source_here", "_law_values"] []) (gP : mg "_law_pick" = some (.ref fP)) (GP : FnOk P w K mg base CX0 2 fP fdP ["_law_source_here", "_law_values"] (spPick K))
    (ml : mg "len" = none) (mli : mg "list" = none) : FnOk P w K mg base CX0 3 f fd ["_law_source_here", "_law_one"] spMutI := by
  refine F.ok scMutI (fun vs H Q E h => ?_) (fun cdv A outer s H vs Q E hr h => ?_)
  · obtain ⟨S, F, t, ws, ds, rfl, _, ht, ⟨it, rfl, _⟩, _⟩ := h
    exact congrArg Nat.succ ht.length
  · obtain ⟨S, F, t, ws, ds, rfl, at0, ht, ⟨it, rfl, hit⟩, lim, q⟩ := h
    have nd := scMutI.nd
    refine ⟨_, pss_cons (ps_asg (pv 1) (pg_tup rfl (pgs_cons (pg_name (i := 2) nd rfl (.inl rfl)) (pgs_cons (pg_name (i := 3) nd rfl (.inl rfl)) (pgs_cons (pg_name (i := 4) nd rfl (.inl rfl)) pgs_nil)))))
      (pss_cons (ps_set (i := 5) nd rfl (.inl rfl) (pe_lst (pa_cons pe_str (pa_cons pe_str (pa_cons pe_str (pa_cons pe_str (pa_cons pe_non (pa_cons pe_int (pa_cons (pe_tup (pa_cons pe_str pa_nil)) (pa_cons (pe_lst (pa_cons pe_str pa_nil)) (pa_cons pe_bl (pa_cons pe_str (pa_cons pe_str (pa_cons pe_str (pa_cons pe_str (pa_cons pe_str (pa_cons pe_str (pa_cons pe_str (pa_cons pe_str pa_nil)))))))))))))))))))
      (pss_cons (ps_set (i := 6) nd rfl (.inl rfl) (pe_call GP hr (by rfl) gP FP.kp bP .nil pass0 (pa_cons (pv 0) (pa_cons (pv 5) pa_nil))))
      (pss_cons (ps_set (i := 7) nd rfl (.inl rfl) (pe_lst (pa_cons (pe_tup (pa_cons (pv 6) (pa_cons (pv 3) (pa_cons (pv 4) pa_nil)))) (pa_cons (pe_tup (pa_cons (pv 2) (pa_cons (pv 6) (pa_cons (pv 4) pa_nil))))
          (pa_cons (pe_tup (pa_cons (pv 2) (pa_cons (pv 3) (pa_cons (pe_op op_catA (pv 4) (pe_tup (pa_cons (pv 6) pa_nil))) pa_nil)))) (pa_cons (pe_tup (pa_cons (pv 2) (pa_cons (pv 3) (pa_cons (pe_op op_repO (pe_tup (pa_cons (pv 6) pa_nil)) pe_int) pa_nil)))) pa_nil))))))
      (pss_cons (ps_set (i := 7) nd rfl (.inl rfl) (pe_op op_cat (pv 7) (pe_lst (pa_cons (pe_tup (pa_cons (pv 2) (pa_cons (pv 3) (pa_cons (pe_op op_catA (pe_tup (pa_cons (pv 6) pa_nil)) (pe_slice sl_tupA (pv 4) po_none (po_some pe_int))) pa_nil))))
          (pa_cons (pe_tup (pa_cons (pv 2) (pa_cons (pv 3) (pa_cons (pe_op op_catA (pe_op op_catA (pe_slice sl_tupA (pv 4) po_none (po_some pe_int)) (pe_tup (pa_cons (pv 6) pa_nil))) (pe_slice sl_tupA (pv 4) (po_some pe_int) (po_some pe_int))) pa_nil)))) pa_nil)))))
      (pss_cons (ps_set (i := 7) nd rfl (.inl rfl) (pe_op op_cat (pv 7) (pe_lst (pa_cons (pe_tup (pa_cons (pv 2) (pa_cons (pv 3) (pa_cons (pe_callTy call_list_of (by rfl) mli (by decide +kernel) (pa_cons (pv 4) pa_nil)) pa_nil))))
          (pa_cons (pe_tup (pa_cons (pv 2) (pa_cons (pv 3) pa_nil))) (pa_cons (pe_tup (pa_cons (pv 2) (pa_cons (pv 3) (pa_cons (pv 4) (pa_cons pe_int pa_nil))))) (pa_cons (pe_lst (pa_cons (pv 2) (pa_cons (pv 3) (pa_cons (pv 4) pa_nil)))) (pa_cons pe_non (pa_cons (pe_tup pa_nil) pa_nil)))))))))
      (pss_one (ps_ret (pe_call GP hr (by rfl) gP FP.kp bP .nil pass0 (pa_cons (pv 0) (pa_cons (pe_op op_cat (pv 7) (pe_lst (pa_cons (pe_tup (pa_cons (pv 2) (pa_cons (pv 3) (pa_cons (pe_op op_catA (pv 4) (pe_op op_repO (pe_tup (pa_cons pe_str pa_nil)) (pe_op op_sub pe_int (pe_callB call_len (by rfl) ml PySem.boot_len (pa_cons (pv 4) pa_nil))))) pa_nil))))
          (pa_cons (pe_tup (pa_cons (pv 2) (pa_cons (pv 3) (pa_cons pe_non pa_nil)))) (pa_cons (pv 1) pa_nil))))) pa_nil)))))))))), ?_⟩
    cases ht with
    | @cons x1 _ _ _ hx1 tl =>
    cases tl
    refine Dl.q_tup (F := F) (Dl.var rfl hx1) rfl at0.i fun xs F1 H1 s1 hxs => ?_
    cases hxs with
    | @cons v2 _ _ _ hv2 tl =>
    cases tl with
    | @cons v3 _ _ _ hv3 tl =>
    cases tl with
    | @cons v4 _ _ _ hv4 tl =>
    cases tl
    refine ⟨_, _, rfl, _, _, rfl, _, _, rfl, rfl, ?_⟩
    have a1 := at0.step s1
    refine Dl.q_asg (F := F1) (Dl.lst (ds := labelsD) (Dl.cons Dl.str (Dl.cons Dl.str (Dl.cons Dl.str (Dl.cons Dl.str (Dl.cons Dl.non (Dl.cons Dl.int (Dl.cons (Dl.tup (Dl.cons Dl.str Dl.nil) (by decide)) (Dl.cons (Dl.lst (Dl.cons Dl.str Dl.nil) (by decide)) (Dl.cons Dl.bl (Dl.cons Dl.str (Dl.cons Dl.str (Dl.cons Dl.str (Dl.cons Dl.str (Dl.cons Dl.str (Dl.cons Dl.str (Dl.cons Dl.str (Dl.cons Dl.str Dl.nil))))))))))))))))) (by decide)) a1.i fun vl F2 H2 s2 tl2 => ?_
    have a2 := a1.step s2
    refine Gn.q_asg (n := 1) (P := fun d => Dl.nice d [6] = true) (Gn.EvG.weak (Gn.pick (i := 0) rfl (Gn.pure (Dl.var rfl tl2)) (fun d e => ⟨labelsD, e, by decide, by decide⟩)) (by decide) (fun d h => by
      obtain ⟨ds, e, hd⟩ := h
      have e' : ds = labelsD := by
        cases e
        rfl
      subst e'
      exact nice_labels d hd)) a2 (by omega) fun vb l F3 H3 t3 s3 a3 l3 tb hb => ?_
    have e13 : Evl.Ex F1 F3 := s2.f.trans s3.f
    have hv2 := hv2.mono e13
    have hv3 := hv3.mono e13
    have hv4 := hv4.mono e13
    have hx3 := hx1.mono (s1.f.trans e13)
    have nn : ∀ ms, Dl.nice (.str it.name) ms = true := fun ms => hit.nm
    have nk : ∀ ms, Dl.nice (.str it.kind) ms = true := fun ms => hit.kd
    have nl : Dl.nice l [12, 6] = true := Dl.nice_wider hb (by decide)
    have ls := hit.s4
    have lsm : (it.slots.map PyData.str).length = it.slots.length := List.length_map _
    have ns6 : ∀ d ∈ it.slots.map PyData.str, Dl.nice d [6] = true := nice_strs (n := 0) hit.sk
    have row : ∀ xs : List PyData, xs.length ≤ 12 → (∀ d ∈ xs, Dl.nice d [6] = true) → Dl.nice (.tuple xs) [12, 6] = true ∧ Dl.nice (.list xs) [12, 6] = true := fun xs h1 h2 => ⟨(Dl.nice_row h1 h2).2.2, (Dl.nice_row h1 h2).2.1⟩
    have in1 : ∀ d ∈ [l], Dl.nice d [6] = true := fun d hd => by
      rw [List.mem_singleton.mp hd]
      exact hb
    have cut1 : ∀ lo hi, ∀ d ∈ Dl.cutD (it.slots.map PyData.str) lo hi, Dl.nice d [6] = true := fun lo hi d hd => ns6 d (Dl.cutD_mem hd)
    have cutl : ∀ lo hi, (Dl.cutD (it.slots.map PyData.str) lo hi).length ≤ 4 := fun lo hi => Nat.le_trans Dl.cutD_len (by omega)
    have app : ∀ {a b : List PyData}, (∀ d ∈ a, Dl.nice d [6] = true) → (∀ d ∈ b, Dl.nice d [6] = true) → ∀ d ∈ a ++ b, Dl.nice d [6] = true := fun {a b} h1 h2 d hd => by
      rcases List.mem_append.mp hd with z | z
      · exact h1 d z
      · exact h2 d z
    have len1 : [l].length = 1 := rfl
    have r0 := row (it.slots.map PyData.str) (by omega) ns6
    have r1 := row (it.slots.map PyData.str ++ [l]) (by rw [List.length_append]; omega) (app ns6 in1)
    have r2 := row [l, l, l, l] (by show 4 ≤ 12; decide) (fun d hd => by simp at hd; rw [hd]; exact hb)
    have r3 := row ([l] ++ Dl.cutD (it.slots.map PyData.str) none (some 3)) (by rw [List.length_append]; have := cutl none (some 3); omega) (app in1 (cut1 _ _))
    have r4 := row ((Dl.cutD (it.slots.map PyData.str) none (some 1) ++ [l]) ++ Dl.cutD (it.slots.map PyData.str) (some 1) (some 3)) (by rw [List.length_append, List.length_append]; have := cutl none (some 1); have := cutl (some 1) (some 3); omega) (app (app (cut1 _ _) in1) (cut1 _ _))
    have r5 := row [] (by decide) (fun d hd => by cases hd)
    have c1 := cutl none (some 3)
    have c2 := cutl none (some 1)
    have c3 := cutl (some 1) (some 3)
    -- the first four
    refine Dl.q_asg (F := F3) (Dl.lst (ds := [.tuple [l, .str it.kind, .tuple (it.slots.map .str)], .tuple [.str it.name, l, .tuple (it.slots.map .str)], .tuple [.str it.name, .str it.kind, .tuple (it.slots.map .str ++ [l])], .tuple [.str it.name, .str it.kind, .tuple [l, l, l, l]]])
      (Dl.cons (Dl.tup (Dl.cons (Dl.var rfl tb) (Dl.cons (Dl.var rfl hv3) (Dl.cons (Dl.var rfl hv4) Dl.nil))) (by show 3 ≤ 100000; decide)) (Dl.cons (Dl.tup (Dl.cons (Dl.var rfl hv2) (Dl.cons (Dl.var rfl tb) (Dl.cons (Dl.var rfl hv4) Dl.nil))) (by show 3 ≤ 100000; decide))
      (Dl.cons (Dl.tup (Dl.cons (Dl.var rfl hv2) (Dl.cons (Dl.var rfl hv3) (Dl.cons (Dl.op (Dl.var rfl hv4) (Dl.tup (Dl.cons (Dl.var rfl tb) Dl.nil) (by show 1 ≤ 100000; decide)) (Dl.catT (by omega))) Dl.nil))) (by show 3 ≤ 100000; decide))
      (Dl.cons (Dl.tup (Dl.cons (Dl.var rfl hv2) (Dl.cons (Dl.var rfl hv3) (Dl.cons (Dl.is_ (d := .tuple [l, l, l, l]) (Dl.op (Dl.tup (Dl.cons (Dl.var rfl tb) Dl.nil) (by show 1 ≤ 100000; decide)) Dl.int (Dl.repO (k := 4) (List.cons_ne_nil _ _) (by decide) (by show 1 ≤ 1000; decide))) rfl) Dl.nil))) (by show 3 ≤ 100000; decide)) Dl.nil)))) (by show 4 ≤ 100000; decide)) a3.i fun vs1 F4 H4 s4 ts1 => ?_
    have hv2 := hv2.mono s4.f
    have hv3 := hv3.mono s4.f
    have hv4 := hv4.mono s4.f
    have tb := tb.mono s4.f
    have g1 : Dl.niceAll [PyData.tuple [l, .str it.kind, .tuple (it.slots.map .str)], .tuple [.str it.name, l, .tuple (it.slots.map .str)], .tuple [.str it.name, .str it.kind, .tuple (it.slots.map .str ++ [l])], .tuple [.str it.name, .str it.kind, .tuple [l, l, l, l]]] [6, 12, 6] = true := by
      simp only [Dl.niceAll_cons, Dl.niceAll_nil, Dl.nice_tuple, nn, nk, nl, r0, r1, r2, Bool.and_true, List.length_cons, List.length_nil]
      rfl
    obtain ⟨L1, e1⟩ : ∃ L, L = [PyData.tuple [l, .str it.kind, .tuple (it.slots.map .str)], .tuple [.str it.name, l, .tuple (it.slots.map .str)], .tuple [.str it.name, .str it.kind, .tuple (it.slots.map .str ++ [l])], .tuple [.str it.name, .str it.kind, .tuple [l, l, l, l]]] := ⟨_, rfl⟩
    rw [← e1] at g1 ts1
    have n1 : L1.length = 4 := by
      rw [e1]
      rfl
    clear e1
    -- two more
    refine Dl.q_asg (F := F4) (Dl.op (Dl.var rfl ts1) (Dl.lst (ds := [PyData.tuple [.str it.name, .str it.kind, .tuple ([l] ++ Dl.cutD (it.slots.map PyData.str) none (some 3))], .tuple [.str it.name, .str it.kind, .tuple ((Dl.cutD (it.slots.map PyData.str) none (some 1) ++ [l]) ++ Dl.cutD (it.slots.map PyData.str) (some 1) (some 3))]])
      (Dl.cons (Dl.tup (Dl.cons (Dl.var rfl hv2) (Dl.cons (Dl.var rfl hv3) (Dl.cons (Dl.op (Dl.tup (Dl.cons (Dl.var rfl tb) Dl.nil) (by show 1 ≤ 100000; decide)) (Dl.slT (Dl.var rfl hv4) Dl.noPart (Dl.part Dl.int)) (Dl.catT (by rw [len1]; omega))) Dl.nil))) (by show 3 ≤ 100000; decide))
      (Dl.cons (Dl.tup (Dl.cons (Dl.var rfl hv2) (Dl.cons (Dl.var rfl hv3) (Dl.cons (Dl.op (Dl.op (Dl.slT (Dl.var rfl hv4) Dl.noPart (Dl.part Dl.int)) (Dl.tup (Dl.cons (Dl.var rfl tb) Dl.nil) (by show 1 ≤ 100000; decide)) (Dl.catT (by rw [len1]; omega))) (Dl.slT (Dl.var rfl hv4) (Dl.part Dl.int) (Dl.part Dl.int)) (Dl.catT (by rw [List.length_append, len1]; omega))) Dl.nil))) (by show 3 ≤ 100000; decide)) Dl.nil)) (by show 2 ≤ 100000; decide)) (Dl.cat (by rw [n1]; show 4 + 2 ≤ 100000; decide))) s4.i fun vs2 F5 H5 s5 ts2 => ?_
    have hv2 := hv2.mono s5.f
    have hv3 := hv3.mono s5.f
    have hv4 := hv4.mono s5.f
    have g2 : Dl.niceAll [PyData.tuple [.str it.name, .str it.kind, .tuple ([l] ++ Dl.cutD (it.slots.map PyData.str) none (some 3))], .tuple [.str it.name, .str it.kind, .tuple ((Dl.cutD (it.slots.map PyData.str) none (some 1) ++ [l]) ++ Dl.cutD (it.slots.map PyData.str) (some 1) (some 3))]] [6, 12, 6] = true := by
      simp only [Dl.niceAll_cons, Dl.niceAll_nil, Dl.nice_tuple, nn, nk, r3, r4, Bool.and_true, List.length_cons, List.length_nil]
      rfl
    obtain ⟨L2, e2⟩ : ∃ L, L = L1 ++ [PyData.tuple [.str it.name, .str it.kind, .tuple ([l] ++ Dl.cutD (it.slots.map PyData.str) none (some 3))], .tuple [.str it.name, .str it.kind, .tuple ((Dl.cutD (it.slots.map PyData.str) none (some 1) ++ [l]) ++ Dl.cutD (it.slots.map PyData.str) (some 1) (some 3))]] := ⟨_, rfl⟩
    have n2 : L2.length = 6 := by
      rw [e2, List.length_append, n1]
      rfl
    have g2' : Dl.niceAll L2 [6, 12, 6] = true := by
      rw [e2]
      exact niceAll_app g1 g2
    rw [← e2] at ts2
    clear e2 g2 g1
    -- six more
    refine Dl.q_asg (F := F5) (Dl.op (Dl.var rfl ts2) (Dl.lst (ds := [PyData.tuple [.str it.name, .str it.kind, .list (it.slots.map .str)], .tuple [.str it.name, .str it.kind], .tuple [.str it.name, .str it.kind, .tuple (it.slots.map .str), .int 0], .list [.str it.name, .str it.kind, .tuple (it.slots.map .str)], .none, .tuple []])
      (Dl.cons (Dl.tup (Dl.cons (Dl.var rfl hv2) (Dl.cons (Dl.var rfl hv3) (Dl.cons (Dl.call (Dl.cons (Dl.var rfl hv4) Dl.nil) Gn.listOf) Dl.nil))) (by show 3 ≤ 100000; decide))
      (Dl.cons (Dl.tup (Dl.cons (Dl.var rfl hv2) (Dl.cons (Dl.var rfl hv3) Dl.nil)) (by show 2 ≤ 100000; decide))
      (Dl.cons (Dl.tup (Dl.cons (Dl.var rfl hv2) (Dl.cons (Dl.var rfl hv3) (Dl.cons (Dl.var rfl hv4) (Dl.cons Dl.int Dl.nil)))) (by show 4 ≤ 100000; decide))
      (Dl.cons (Dl.lst (Dl.cons (Dl.var rfl hv2) (Dl.cons (Dl.var rfl hv3) (Dl.cons (Dl.var rfl hv4) Dl.nil))) (by show 3 ≤ 100000; decide))
      (Dl.cons Dl.non (Dl.cons (Dl.tup Dl.nil (by show 0 ≤ 100000; decide)) Dl.nil)))))) (by show 6 ≤ 100000; decide)) (Dl.cat (by rw [n2]; show 6 + 6 ≤ 100000; decide))) s5.i fun vs3 F6 H6 s6 ts3 => ?_
    have hv2 := hv2.mono s6.f
    have hv3 := hv3.mono s6.f
    have hv4 := hv4.mono s6.f
    have g3 : Dl.niceAll [PyData.tuple [.str it.name, .str it.kind, .list (it.slots.map .str)], .tuple [.str it.name, .str it.kind], .tuple [.str it.name, .str it.kind, .tuple (it.slots.map .str), .int 0], .list [.str it.name, .str it.kind, .tuple (it.slots.map .str)], .none, .tuple []] [6, 12, 6] = true := by
      have z0 : Dl.nice (.int 0) [12, 6] = true := rfl
      have z1 : Dl.nice .none [6, 12, 6] = true := rfl
      simp only [Dl.niceAll_cons, Dl.niceAll_nil, Dl.nice_tuple, Dl.nice_list, nn, nk, r0, z0, z1, Bool.and_true, List.length_cons, List.length_nil]
      rfl
    obtain ⟨L3, e3⟩ : ∃ L, L = L2 ++ [PyData.tuple [.str it.name, .str it.kind, .list (it.slots.map .str)], .tuple [.str it.name, .str it.kind], .tuple [.str it.name, .str it.kind, .tuple (it.slots.map .str), .int 0], .list [.str it.name, .str it.kind, .tuple (it.slots.map .str)], .none, .tuple []] := ⟨_, rfl⟩
    have n3 : L3.length = 12 := by
      rw [e3, List.length_append, n2]
      rfl
    have g3' : Dl.niceAll L3 [6, 12, 6] = true := by
      rw [e3]
      exact niceAll_app g2' g3
    rw [← e3] at ts3
    clear e3 g3 g2'
    have s36 := (s4.trans s5).trans s6
    have a6 := a3.step s36
    have krep : (List.replicate (5 - (it.slots.length : Int)).toNat [PyData.str "k"]).flatten.length ≤ 5 ∧ ∀ d ∈ (List.replicate (5 - (it.slots.length : Int)).toNat [PyData.str "k"]).flatten, Dl.nice d [6] = true := by
      refine ⟨?_, fun d hd => ?_⟩
      · rw [List.length_flatten]
        simp
      · obtain ⟨r, hr, hd2⟩ := List.mem_flatten.mp hd
        rw [(List.mem_replicate.mp hr).2] at hd2
        rw [List.mem_singleton.mp hd2]
        decide +kernel
    have r6 := row (it.slots.map PyData.str ++ (List.replicate (5 - (it.slots.length : Int)).toNat [PyData.str "k"]).flatten) (by rw [List.length_append]; have := krep.1; omega) (app ns6 krep.2)
    have k1 := krep.1
    have g4 : Dl.niceAll [PyData.tuple [.str it.name, .str it.kind, .tuple (it.slots.map .str ++ (List.replicate (5 - (it.slots.length : Int)).toNat [PyData.str "k"]).flatten)], .tuple [.str it.name, .str it.kind, .none], encI it] [6, 12, 6] = true := by
      have z1 : Dl.nice .none [12, 6] = true := rfl
      have z2 := hit.nice
      simp only [Dl.niceAll_cons, Dl.niceAll_nil, Dl.nice_tuple, nn, nk, r6, z1, z2, Bool.and_true, List.length_cons, List.length_nil]
      rfl
    refine Gn.s_ret (n := 1) (P := fun d => Dl.nice d [6, 12, 6] = true) (Gn.EvG.weak (Gn.pick (i := 0) (P := (· = .list (L3 ++ [PyData.tuple [.str it.name, .str it.kind, .tuple (it.slots.map .str ++ (List.replicate (5 - (it.slots.length : Int)).toNat [PyData.str "k"]).flatten)], .tuple [.str it.name, .str it.kind, .none], encI it]))) rfl (Gn.pure (Dl.op (Dl.var rfl ts3) (Dl.lst
      (Dl.cons (Dl.tup (Dl.cons (Dl.var rfl hv2) (Dl.cons (Dl.var rfl hv3) (Dl.cons (Dl.op (Dl.var rfl hv4) (Dl.op (Dl.tup (Dl.cons Dl.str Dl.nil) (by show 1 ≤ 100000; decide)) (Dl.op Dl.int (Dl.is_ (Dl.call (Dl.cons (Dl.var rfl hv4) Dl.nil) (Dl.len (n := it.slots.length) (congrArg some lsm))) rfl) Dl.rI0i) (Dl.repO (k := 5 - (it.slots.length : Int)) (List.cons_ne_nil _ _) ⟨by omega, by omega⟩ (by show 1 ≤ 1000; decide))) (Dl.catT (by omega))) Dl.nil))) (by show 3 ≤ 100000; decide))
      (Dl.cons (Dl.tup (Dl.cons (Dl.var rfl hv2) (Dl.cons (Dl.var rfl hv3) (Dl.cons Dl.non Dl.nil))) (by show 3 ≤ 100000; decide)) (Dl.cons (Dl.var rfl (hx3.mono s36.f)) Dl.nil))) (by show 3 ≤ 100000; decide)) (Dl.cat (by rw [n3]; show 12 + 3 ≤ 100000; decide)))) (fun d e => ⟨_, e, by rw [List.length_append, n3]; omega, by rw [List.length_append, n3]; show 12 + 3 ≤ 100000; decide⟩)) (by decide) (fun d h => by
        obtain ⟨ds, e, hd⟩ := h
        have e' := PyData.list.inj e
        subst e'
        exact Dl.niceAll_iff.mp (niceAll_app g3' g4) d hd)) a6 (by omega) fun y d F7 H7 t7 s7 a7 l7 ty hy => ?_
    exact q y d F7 H7 t7 ((((Gn.Stg.of s1).trans (.of s2)).trans s3).trans ((Gn.Stg.of s36).trans s7)) a7 (by omega) ty hy
end
end Lw
set_option Elab.async false
set_option linter.all false
set_option maxRecDepth 100000
set_option maxHeartbeats 4000000
set_option exponentiation.threshold 10000
namespace Dl
open PySem PySem.Spec PyProof.Rows L2
theorem TlAll.reverse {F : Hp} : ∀ {vs : List V} {ds : List D}, TlAll F vs ds → TlAll F vs.reverse ds.reverse
  | _, _, .nil => .nil
  | _, _, .cons h t => by
    rw [List.reverse_cons, List.reverse_cons]
    exact (TlAll.reverse t).append (.cons h .nil)
theorem TlAll.set {F : Hp} {v : V} {d : D} (hv : Tl F v d) : ∀ {vs : List V} {ds : List D} (i : Nat), TlAll F vs ds → TlAll F (vs.set i v) (ds.set i d)
  | _, _, _, .nil => .nil
  | _, _, 0, .cons h t => .cons hv t
  | _, _, i + 1, .cons h t => .cons h (TlAll.set hv i t)
section
variable {K : PySem.W.Frag} {σ : L2.St} {F : Hp} {te : TE} {ds : List D}
theorem revL (h : Ev te σ F (.list ds)) : Ev (tRevL K te) σ F (.list ds.reverse) := fun F1 H1 a b Q q => h F1 H1 a b _ fun x F2 H2 s hx => by
  cases hx with
  | @lst l xs _ h1 t1 =>
    refine ⟨l, xs, rfl, .inl (.inl (s.i _ _ h1)), fun p hp => ?_⟩
    have st : Stp F2 H2 _ _ := .new (o := .lst xs.reverse) s.i hp
    exact q _ _ _ (s.trans st) (.lst upd_same (t1.reverse.mono st.f))
theorem eqI {i : Nat} {v k : Int} (h : σ[i]? = some (some (.int v))) : EvT (tTest (tOp (rEqD K) (tVar i) (tC (.int k)))) σ F (decide (v = k)) :=
  Dl.tis (Dl.test (Dl.op (Dl.var h (.int _)) Dl.int (Dl.eqD (Lw.int_shaped _) (Lw.int_shaped _)))) (by
    simp only [PyData.eqv]
    rw [Bool.eq_iff_iff, beq_iff_eq, decide_eq_true_iff])
end
end Dl
namespace Gn
open PySem PySem.Spec PyProof.Rows L2 Lw
section
variable {K : PySem.W.Frag} {S : Addr × Addr} {σ : L2.St} {F H : Hp} {te : TE} {ta : TA} {n t : Nat} {P : D → Prop} {Ps : List D → Prop} {DD : Ends} {tz : TS}
theorem q_par {i j : Nat} (h : EvGA S ta σ F n Ps) (hP : ∀ ds, Ps ds → ∃ d e, ds = [d, e]) (a : At S F H t) (lim : t + n < 2 ^ 40) (k : ∀ x y d e F1 H1 t1, Stg S F H F1 H1 → At S F1 H1 t1 → t1 ≤ t + n → Tl F1 x d → Tl F1 y e → Ps [d, e] → tz DD ((σ.set i (some x)).set j (some y)) H1) :
    tSeq (tPar i j ta) tz DD σ H := h F H t (Evl.Ex.refl _) a lim _ fun xs ds F1 H1 t1 s a1 l1 tl p => by
  obtain ⟨d, e, rfl⟩ := hP ds p
  cases tl with
  | cons hx tl =>
    cases tl with
    | cons hy tl =>
      cases tl
      exact ⟨_, _, rfl, k _ _ d e F1 H1 t1 s a1 l1 hx hy p⟩
theorem slLd {tx : TE} {ds : List D} (h : Dl.Ev te σ F (.list ds)) (h2 : EvG S tx σ F n P) (hP : ∀ d, P d → ∃ i : Int, d = .int i) : EvG S (tSl (rSlL K) te tNoPart (tPart tx)) σ F n (fun d => ∃ i : Int, P (.int i) ∧ d = .list (Dl.cutD ds none (some i))) := fun F1 H1 t a at1 lim Q q =>
  h F1 H1 a at1.i _ fun x F2 H2 s2 tx => h2 F2 H2 t (a.trans s2.f) (at1.step s2) lim _ fun y d F3 H3 t3 s3 a3 l3 ty pd => by
    obtain ⟨i, rfl⟩ := hP d pd
    cases ty
    cases tx with
    | @lst l xs _ e tt =>
      refine ⟨i, rfl, l, xs, rfl, .inl (.inl (a3.i _ _ (s3.f _ _ e))), fun p hp => ?_⟩
      have st : Dl.Stp F3 H3 _ _ := .new (o := .lst (cutV xs none (some i))) a3.i hp
      exact q _ _ _ _ t3 (((Stg.of s2).trans s3).trans (.of st)) (a3.step st) l3 (.lst upd_same (((tt.cut none (some i)).mono s3.f).mono st.f)) ⟨i, pd, rfl⟩
/-- a draw is stored into a list of one's own -/
theorem q_sto {p : Addr} {c ix : Nat} {at' : Int} {ys : List V} {cs : List D} (h : EvG S te σ F n P) (a : At S F H t) (lim : t + n < 2 ^ 40) (hc : σ[c]? = some (some (.ref p))) (hi : σ[ix]? = some (some (.int at'))) (fp : F p = none) (n1 : p ≠ S.1 ∧ p ≠ S.2) (hp : H p = some (.lst ys)) (ty : TlAll F ys cs) (j : Nat) (hj : ixN ys.length at' = some j)
    (k : ∀ d F1 H1 t1 ys', Stg S F H F1 H1 → At S F1 H1 t1 → t1 ≤ t + n → F1 p = none → P d → TlAll F1 ys' (cs.set j d) → tz DD σ (upd H1 p (.lst ys'))) : tSeq (tAsg te (gSub (tVar c) (tVar ix) rSetL)) tz DD σ H :=
  h F H t (Evl.Ex.refl _) a lim _ fun x d F1 H1 t1 s a1 l1 tx pd => by
    have hp1 := s.h p _ n1.1 n1.2 hp
    refine ⟨_, hc, _, hi, p, ys, at', j, rfl, rfl, hp1, hj, ?_⟩
    exact k d F1 H1 t1 _ s a1 l1 (s.n p fp (by rw [hp]; exact fun z => nomatch z)) pd (Dl.TlAll.set tx j (ty.mono s.f))
theorem s_sto {p : Addr} {c ix : Nat} {at' : Int} {ys : List V} {cs : List D} (h : EvG S te σ F n P) (a : At S F H t) (lim : t + n < 2 ^ 40) (hc : σ[c]? = some (some (.ref p))) (hi : σ[ix]? = some (some (.int at'))) (fp : F p = none) (n1 : p ≠ S.1 ∧ p ≠ S.2) (hp : H p = some (.lst ys)) (ty : TlAll F ys cs) (j : Nat) (hj : ixN ys.length at' = some j)
    (k : ∀ d F1 H1 t1 ys', Stg S F H F1 H1 → At S F1 H1 t1 → t1 ≤ t + n → F1 p = none → P d → TlAll F1 ys' (cs.set j d) → DD.nx σ (upd H1 p (.lst ys'))) : tAsg te (gSub (tVar c) (tVar ix) rSetL) DD σ H :=
  h F H t (Evl.Ex.refl _) a lim _ fun x d F1 H1 t1 s a1 l1 tx pd => by
    have hp1 := s.h p _ n1.1 n1.2 hp
    refine ⟨_, hc, _, hi, p, ys, at', j, rfl, rfl, hp1, hj, ?_⟩
    exact k d F1 H1 t1 _ s a1 l1 (s.n p fp (by rw [hp]; exact fun z => nomatch z)) pd (Dl.TlAll.set tx j (ty.mono s.f))
end
end Gn
set_option Elab.async false
set_option linter.all false
set_option maxRecDepth 100000
set_option maxHeartbeats 4000000
namespace KeepX
open PySem PySem.Spec PyProof.Rows L2 ExV
section
variable {X : Cx} {pins : List (Addr × Obj)} {σ : L2.St} {H : Hp} {s : Shared} {a D dx : Addr} {fs : List (Str × V)} {f : Str} {e : Expr} {te : TE} {pos : Pos}
theorem exk_inst (I : Inv X pins σ H s) (h : H a = some (exk a D (some dx))) (hd : H dx = some (.xd fs)) : ∃ ox od, PySem.W.InstAt s.heap a ox D (some od) := by
  obtain ⟨oe, vs, e1, e2, e3, e4⟩ := exk_at I.hok h
  have z : ObjOk X.prog X.w H s.heap dx (.xd fs) := I.hok dx _ hd
  obtain ⟨mA, ⟨o, es, ep, hn, _⟩, _⟩ := z
  exact ⟨oe, o, e1, e2, by unfold PySem.W.notCls; rw [e4] <;> rfl, by rw [e3]; exact hn⟩
/-- isinstance(x, c), x a caught error or a plain value -/
def rIsK (K : PySem.W.Frag) : List V → Hp → VK → Prop := fun xs H Q => rIsi K xs H Q ∨ ∃ (a D dx : Addr) (fs : List (Str × V)) (c : V) (cv : Value) (b : Bool), xs = [.ref a, c] ∧ ExcC K D ∧ H a = some (exk a D (some dx)) ∧ H dx = some (.xd fs) ∧ ClsV c cv ∧ PySem.W.kitOne K (.ref D) cv = some b ∧ Q (.bl b) H
theorem call_isK : CallR X (.builtin "isinstance") (rIsK X.K) := by
  intro pins s σ H xs us Q I r h
  rcases h with h | ⟨a, D, dx, fs, c, cv, b, rfl, cc, hx, hd, k, e, q⟩
  · exact call_isi pins s σ H xs us Q I r h
  · obtain ⟨u1, u2, rfl, r1, r2⟩ := vals2 r
    cases r1
    have e2 := k.eq r2
    subst e2
    obtain ⟨ox, od, J⟩ := exk_inst I hx hd
    exact PySem.W.kia_one (kit_exc cc) I.kIn J e (fun z => nomatch z) fun tk => ⟨.bl b, H, I.tok tk, rfl, q⟩
def tXK (K : PySem.W.Frag) (f : Str) (te : TE) : TE := fun σ H Q => te σ H fun x H1 => ∃ (a D dx : Addr) (fs : List (Str × V)) (v : V), x = .ref a ∧ XfC K D ∧ PySem.W.findIn K (.ref D) f = some none ∧ H1 a = some (exk a D (some dx)) ∧ H1 dx = some (.xd fs) ∧ fs.lookup f = some v ∧ Q v H1
theorem pe_xk (he : PE X e te) (hb : attributeBase e f X.env (eval e X.env) = eval e X.env := by rfl) : PE X (.Attribute e f pos) (tXK X.K f te) := by
  refine ⟨fun pins s σ H Q I hyp => attr_of hb (thn (he.run pins s σ H _ I hyp) fun u s1 got => ?_)⟩
  obtain ⟨x, H1, I1, rx, a, D, dx, fs, v, rfl, T, none_, h1, h2, l, q⟩ := got
  obtain rfl : u = Value.ref a := rx
  obtain ⟨oe, vs, e1, e2, e3, e4⟩ := exk_at I1.hok h1
  have z : ObjOk X.prog X.w H1 s1.heap dx (.xd fs) := I1.hok dx _ h2
  obtain ⟨mA, names, rel⟩ := z
  obtain ⟨od, hod, look⟩ := lookIn_ns names
  obtain ⟨u, hu, ru⟩ := RelO.some_of (v := v) (o := mA f) (by rw [← l]; exact rel f)
  have J : PySem.W.InstAt s1.heap a oe D (some od) := ⟨e1, e2, by unfold PySem.W.notCls; rw [e4] <;> rfl, by rw [e3]; exact hod⟩
  exact HandSPX.exc_get I1.kIn J T.ga T.gg T.exC (PySem.W.findObj_own T.hdC none_ rfl (by rw [look, hu])) (handed_of ru) ⟨v, H1, I1.tok _, ru, q⟩
end
end KeepX
namespace Lw
open PySem PySem.Spec PyProof.Rows L2 ExV
/-- what is known of the two classes of errors: C an L -/
structure Two (K : PySem.W.Frag) (mg : Str → Option Value) (C L : Addr) : Prop where
  gC : mg "InvalidInventory" = some (.ref C)
  gL : mg "LikeholesError" = some (.ref L)
  excC : ExcC K C
  xf : XfC K C
  nf : PySem.W.findIn K (.ref C) "reason" = some none
  hit : PySem.W.exmOne K (.ref C) (.ref L) = some true
  kitC : PySem.W.kitOne K (.ref C) (.ref C) = some true
  kitV : PySem.W.kitOne K (.ref C) (.type "ValueError") = some true
  kitN : PySem.W.kitOne K (.type "NoneType") (.ref C) = some false
abbrev sRai : Stmt := topS 37
abbrev nRai : List Str := ["_law_which", "_law_inventory_here", "_law_caught", "e"]
theorem scRai : FnScope nRai ["_law_which", "_law_inventory_here"] (defScope sRai) := ⟨rfl, rfl, rfl, by decide +kernel, rfl, by decide +kernel, by decide +kernel⟩
noncomputable abbrev spRai : Sp := Dl.spF (fun ds => ∃ (n : Nat) (d : PyData), ds = [.int (n : Int), d] ∧ n < 3 ∧ Dl.fit d = true) fun ds => errD (ds.getD 1 .none)
/-- the body of the try -/
def tbRai (K : PySem.W.Frag) (C : Addr) : WX → TS := fun W => tSeq (tIfS (tTest (tOp (rEqD K) (tVar 0) (tC (.int 0)))) (tDrop (tCallS (spInvF C []) (WE W) (tCons (tVar 1) tNil))) tNext)
  (tSeq (tIfS (tTest (tOp (rEqD K) (tVar 0) (tC (.int 1)))) (tDrop (tCallS (spInvF C []) (WE W) (tCons (tVar 1) tNil))) tNext)
    (tIfS (tTest (tOp (rEqD K) (tVar 0) (tC (.int 2)))) (tDrop (tCallS (spInvF C [.tuple [.str "", .int 0]]) (WE W) (tCons (tVar 1) (tCons (tTup (tCons (tC (.str "")) (tCons (tC (.int 0)) tNil))) tNil)))) tNext))
section
variable {P : Program} {w : World} {K : PySem.W.Frag} {mg : Str → Option Value} {base : Heap}
theorem body_rai {C L : Addr} (T : Two K mg C L) {F0 H0 : Hp} {n : Nat} {x1 : V} {d : PyData} {E : Ends} (i0 : Evl.Ex F0 H0) (hx : Dl.Tl F0 x1 d) (hd : Dl.fit d = true) (n3 : n < 3)
    (r1 : errD d = .none → ∀ F1 H1, Dl.Stp F0 H0 F1 H1 → E.nx [some (.int (n : Int)), some x1, some .non, none] H1)
    (r2 : errD d ≠ .none → ∀ a r dx F1 H1, Dl.Stp F0 H0 F1 H1 → Dl.Tl F1 r (errD d) → H1 a = some (KeepX.exk a C (some dx)) → H1 dx = some (.xd [("reason", r)]) → E.nx [some (.int (n : Int)), some x1, some (.ref a), none] H1) :
    tbRai K C (KeepX.wKeep K (.ref L) 3 2 E) E [some (.int (n : Int)), some x1, some .non, none] H0 := by
  have run : ∀ (more : List PyData) (ta : TA) (D : Ends) (Fa Ha : Hp), Dl.Stp F0 H0 Fa Ha → Dl.EvA ta [some (.int (n : Int)), some x1, some .non, none] Fa (d :: more) → (∀ Fb Hb, Dl.Stp F0 H0 Fb Hb → errD d = .none → D.nx [some (.int (n : Int)), some x1, some .non, none] Hb) →
      tDrop (tCallS (spInvF C more) (WE (KeepX.wKeep K (.ref L) 3 2 E)) ta) D [some (.int (n : Int)), some x1, some .non, none] Ha := fun more ta D Fa Ha sa ev next => by
    refine ev Fa Ha (Evl.Ex.refl _) sa.i _ fun xs Fb Hb sb tl => ⟨Fb, d, sb.i, tl, hd, fun e y Fc Hc sc => next Fc Hc ((sa.trans sb).trans sc) e, fun ne r dx Fc Hc sc tr hdx => ?_⟩
    refine ⟨C, rfl, T.hit, fun a ha => ?_⟩
    have sd : Dl.Stp Fc Hc Fc (upd Hc a (KeepX.exk a C (some dx))) := .hid sc.i ha
    exact r2 ne a r dx Fc _ (((sa.trans sb).trans sc).trans sd) tr upd_same (sd.h _ _ hdx)
  have no : ∀ {k : Int}, (n : Int) ≠ k → decide ((n : Int) = k) = true → False := fun h1 h2 => h1 (of_decide_eq_true h2)
  have a1 : ∀ {Fa Ha : Hp}, Dl.Stp F0 H0 Fa Ha → Dl.EvA (tCons (tVar 1) tNil) [some (.int (n : Int)), some x1, some .non, none] Fa [d] := fun s => Dl.cons (Dl.var rfl (hx.mono s.f)) Dl.nil
  have skip0 : n ≠ 0 → ∀ (D : Ends) (tz : TS) (te : TE) (Fa Ha : Hp), Dl.Stp F0 H0 Fa Ha → (∀ Fb Hb, Dl.Stp F0 H0 Fb Hb → tz D [some (.int (n : Int)), some x1, some .non, none] Hb) → tSeq (tIfS (tTest (tOp (rEqD K) (tVar 0) (tC (.int 0)))) (tDrop te) tNext) tz D [some (.int (n : Int)), some x1, some .non, none] Ha := fun hn D tz te Fa Ha sa k =>
    Dl.q_when (F := Fa) (c := decide ((n : Int) = 0)) (Dl.eqI rfl) sa.i (fun hc => (no (by omega) hc).elim) fun _ Fb Hb sb => k Fb Hb (sa.trans sb)
  have skip1 : n ≠ 1 → ∀ (D : Ends) (tz : TS) (te : TE) (Fa Ha : Hp), Dl.Stp F0 H0 Fa Ha → (∀ Fb Hb, Dl.Stp F0 H0 Fb Hb → tz D [some (.int (n : Int)), some x1, some .non, none] Hb) → tSeq (tIfS (tTest (tOp (rEqD K) (tVar 0) (tC (.int 1)))) (tDrop te) tNext) tz D [some (.int (n : Int)), some x1, some .non, none] Ha := fun hn D tz te Fa Ha sa k =>
    Dl.q_when (F := Fa) (c := decide ((n : Int) = 1)) (Dl.eqI rfl) sa.i (fun hc => (no (by omega) hc).elim) fun _ Fb Hb sb => k Fb Hb (sa.trans sb)
  have skip2 : n ≠ 2 → ∀ (te : TE) (Fa Ha : Hp), Dl.Stp F0 H0 Fa Ha → errD d = .none → tIfS (tTest (tOp (rEqD K) (tVar 0) (tC (.int 2)))) (tDrop te) tNext E [some (.int (n : Int)), some x1, some .non, none] Ha := fun hn te Fa Ha sa e =>
    Dl.s_if (F := Fa) (c := decide ((n : Int) = 2)) (Dl.eqI rfl) sa.i (fun hc => (no (by omega) hc).elim) fun _ Fb Hb sb => r1 e Fb Hb (sa.trans sb)
  have st0 : Dl.Stp F0 H0 F0 H0 := .refl i0
  unfold tbRai
  rcases (show n = 0 ∨ n = 1 ∨ n = 2 by omega) with e | e | e
  · refine Dl.q_when (F := F0) (c := decide ((n : Int) = 0)) (Dl.eqI rfl) i0 (fun _ F1 H1 s1 => run [] _ _ F1 H1 s1 (a1 s1) fun F2 H2 s2 en => ?_) (fun hc => absurd (show (n : Int) = 0 by omega) (of_decide_eq_false hc))
    exact skip1 (by omega) _ _ _ F2 H2 s2 fun F3 H3 s3 => skip2 (by omega) _ F3 H3 s3 en
  · refine skip0 (by omega) _ _ _ F0 H0 st0 fun F1 H1 s1 => ?_
    refine Dl.q_when (F := F1) (c := decide ((n : Int) = 1)) (Dl.eqI rfl) s1.i (fun _ F2 H2 s2 => run [] _ _ F2 H2 (s1.trans s2) (a1 (s1.trans s2)) fun F3 H3 s3 en => ?_) (fun hc => absurd (show (n : Int) = 1 by omega) (of_decide_eq_false hc))
    exact skip2 (by omega) _ F3 H3 s3 en
  · refine skip0 (by omega) _ _ _ F0 H0 st0 fun F1 H1 s1 => skip1 (by omega) _ _ _ F1 H1 s1 fun F2 H2 s2 => ?_
    refine Dl.s_if (F := F2) (c := decide ((n : Int) = 2)) (Dl.eqI rfl) s2.i (fun _ F3 H3 s3 => ?_) (fun hc => absurd (show (n : Int) = 2 by omega) (of_decide_eq_false hc))
    have s23 := s2.trans s3
    exact run [.tuple [.str "", .int 0]] _ _ F3 H3 s23 (Dl.cons (Dl.var rfl (hx.mono s23.f)) (Dl.cons (Dl.tup (Dl.cons Dl.str (Dl.cons Dl.int Dl.nil)) (by decide)) Dl.nil)) fun F4 H4 s4 en => r1 en F4 H4 s4
theorem tail_non {C L : Addr} (T : Two K mg C L) {E : Ends} {H : Hp} {u v y : Option V} (q : E.rt .non H) :
    tSeq (tIfS (tAnd (tB (tCB (KeepX.rIsK K) (tCons (tVar 2) (tCons (tC (.ref C)) tNil)))) (tB (tCB (KeepX.rIsK K) (tCons (tVar 2) (tCons (tC (.ty "ValueError")) tNil))))) (tRet (KeepX.tXK K "reason" (tVar 2))) tNext) (tRet (tVar 2)) E [u, v, some .non, y] H := by
  refine Gn.when_in (Gn.and_in ?_)
  refine ⟨.non, rfl, .inl ⟨.non, .ref C, _, _, false, rfl, .own C, .base .non, T.kitN, false, rfl, ?_⟩⟩
  exact ⟨.non, rfl, q⟩
theorem tail_exc {C L : Addr} (T : Two K mg C L) {E : Ends} {H : Hp} {u v y : Option V} {a dx : Addr} {r : V} (ha : H a = some (KeepX.exk a C (some dx))) (hd : H dx = some (.xd [("reason", r)])) (q : E.rt r H) :
    tSeq (tIfS (tAnd (tB (tCB (KeepX.rIsK K) (tCons (tVar 2) (tCons (tC (.ref C)) tNil)))) (tB (tCB (KeepX.rIsK K) (tCons (tVar 2) (tCons (tC (.ty "ValueError")) tNil))))) (tRet (KeepX.tXK K "reason" (tVar 2))) tNext) (tRet (tVar 2)) E [u, v, some (.ref a), y] H := by
  refine Gn.when_in (Gn.and_in ?_)
  refine ⟨.ref a, rfl, .inr ⟨a, C, dx, _, .ref C, _, true, rfl, T.excC, ha, hd, .own C, T.kitC, true, rfl, ?_⟩⟩
  refine ⟨.ref a, rfl, .inr ⟨a, C, dx, _, .ty "ValueError", _, true, rfl, T.excC, ha, hd, .ty _, T.kitV, true, rfl, ?_⟩⟩
  exact ⟨.ref a, rfl, a, C, dx, _, r, rfl, T.xf, T.nf, ha, hd, rfl, q⟩
theorem ok_rai {f fL fU fS C L : Addr} {fd fdL fdU fdS : FuncData} (F : Fun K "_law_raised" "_law_raised" sRai f fd)
    (FL : Fun K "list_slots" "list_slots" sLs fL fdL) (bL : Binds K fdL ["inventory"] []) (gLs : mg "list_slots" = some (.ref fL)) (GL : FnOk P w K mg base (L2.CX P w) 8 fL fdL ["inventory"] (spInvF C []))
    (FU : Fun K "slot_surplus" "slot_surplus" sSu fU fdU) (bU : Binds K fdU ["inventory"] []) (gU : mg "slot_surplus" = some (.ref fU)) (GU : FnOk P w K mg base (L2.CX P w) 8 fU fdU ["inventory"] (spInvF C []))
    (FS : Fun K "slot_kind" "slot_kind" sSk fS fdS) (bS : Binds K fdS ["inventory", "slot"] []) (gS : mg "slot_kind" = some (.ref fS)) (GS : FnOk P w K mg base (L2.CX P w) 8 fS fdS ["inventory", "slot"] (spInvF C [.tuple [.str "", .int 0]]))
    (T : Two K mg C L) (mi : mg "isinstance" = none) (mV : mg "ValueError" = none) : FnOk P w K mg base CX0 9 f fd ["_law_which", "_law_inventory_here"] spRai := by
  refine F.ok scRai (fun vs H Q E h => ?_) (fun cdv A outer s H vs Q E hr h => ?_)
  · obtain ⟨F, ds, _, ht, ⟨n, d, rfl, _⟩, _⟩ := h
    exact ht.length
  · obtain ⟨F, ds, b, ht, ⟨n, d, rfl, n3, hd⟩, q⟩ := h
    have nd := scRai.nd
    refine ⟨_, pss_cons (ps_set (i := 2) nd rfl (.inl rfl) pe_non)
      (pss_cons (KeepX.ps_try_keep (i := 3) (j := 2) (tb := tbRai K C) rfl rfl nd rfl rfl rfl rfl ⟨by rfl, by decide, .inl T.gL⟩ rfl (fun W pn xe tk _ => pss_cons (ps_if (pt_cmpR (op_eqD hr.units) (pv 0) pe_int (nomark _)) (pss_one (ps_expr (pe_callS GL hr (by rfl) gLs FL.kp bL (fun σ => passAt tk σ) (pa_cons (pv 1) pa_nil)))) pss_nil)
          (pss_cons (ps_if (pt_cmpR (op_eqD hr.units) (pv 0) pe_int (nomark _)) (pss_one (ps_expr (pe_callS GU hr (by rfl) gU FU.kp bU (fun σ => passAt tk σ) (pa_cons (pv 1) pa_nil)))) pss_nil)
          (pss_one (ps_if (pt_cmpR (op_eqD hr.units) (pv 0) pe_int (nomark _)) (pss_one (ps_expr (pe_callS GS hr (by rfl) gS FS.kp bS (fun σ => passAt tk σ) (pa_cons (pv 1) (pa_cons (pe_tup (pa_cons pe_str (pa_cons pe_int pa_nil))) pa_nil))))) pss_nil)))))
      (pss_cons (ps_if (PW.pt (pw_and (pt_val (pe_callB KeepX.call_isK (by rfl) mi (by decide +kernel) (pa_cons (pv 2) (pa_cons (pe_glob (v := .ref C) (by rfl) T.gC rfl) pa_nil))))
          (pw_and1 (pt_val (pe_callB KeepX.call_isK (by rfl) mi (by decide +kernel) (pa_cons (pv 2) (pa_cons (pe_bltn (v := .ty "ValueError") (by rfl) mV (by decide +kernel) rfl) pa_nil))))))) (pss_one (ps_ret (KeepX.pe_xk (pv 2)))) pss_nil)
      (pss_one (ps_ret (pv 2))))), ?_⟩
    cases ht with
    | @cons x0 _ _ _ hx0 tl =>
    cases tl with
    | @cons x1 _ _ _ hx1 tl =>
    cases tl
    cases hx0
    have fin : ∀ y F' H', Dl.Stp F H F' H' → Dl.Tl F' y (errD d) → Q y H' := q
    refine Dl.q_asg (F := F) Dl.non b fun v0 F0 H0 s0 t0 => ?_
    cases t0
    have key := fun E r1 r2 => body_rai (K := K) (mg := mg) (E := E) T s0.i (hx1.mono s0.f) hd n3 r1 r2
    refine key _ (fun en F1 H1 s1 => ?_) (fun ne a r dx F1 H1 s1 tr ha hdx => ?_)
    · have e := fin .non F1 H1 (s0.trans s1) (by rw [en]; exact .non)
      exact tail_non T e
    · have e := fin r F1 H1 (s0.trans s1) tr
      exact tail_exc T ha hdx e
end
end Lw
set_option Elab.async false
set_option linter.all false
set_option maxRecDepth 100000
set_option maxHeartbeats 4000000
set_option exponentiation.threshold 10000
namespace Lw
open PySem PySem.Spec PyProof.Rows L2
abbrev sMut : Stmt := topS 36
abbrev nMut : List Str := ["_law_source_here", "_law_inventory_here", "_law_roots", "_law_items_here", "_law_at", "_law_to", "_law_variant", "_law_changed", "_law_subset", "_law_label", "_law_letters", "_law_many_items", "_law_options", "_law_extended", "_law_sign"]
theorem scMut : FnScope nMut ["_law_source_here", "_law_inventory_here"] (defScope sMut) := ⟨rfl, rfl, rfl, by decide +kernel, rfl, by decide +kernel, by decide +kernel⟩
theorem ixN_nat {n j : Nat} (h : j < n) : ixN n (j : Int) = some j := by
  unfold ixN
  rw [if_pos (by omega), if_pos (by omega), Int.toNat_natCast]
abbrev labels2 : List PyData := [.str "", .str "A", .none, .int 7, .str "a1", .str "ninesigns", .str "kinx", .tuple [.str "k"], .list [.str "k"], .str "k\n", .str "`"]
theorem nice_labels2 : ∀ d ∈ labels2, Dl.nice d [6] = true := by decide +kernel
abbrev sgn (z : Str) (i : Nat) : Str := ⟨#[z.cps.toList.getD i 0]⟩
abbrev many25 : List PyData := (List.range 25).map fun i => .tuple [.str (("x" : Str) ++ sgn "abcdefghijklmnopqrstuvwxy" i), .str "k", .tuple []]
theorem nice_many : ∀ d ∈ many25, Dl.nice d [6, 12, 6] = true := by decide +kernel
abbrev ext6 : List Itm := (List.range 6).map fun i => ⟨("o" : Str) ++ sgn "abcdef" i, ("kk" : Str) ++ sgn "abcdef" i, []⟩
theorem nice_ext : ∀ d ∈ ext6.map encI, Dl.nice d [6, 12, 6] = true := by decide +kernel
theorem sgn_at {z : Str} {i c : Nat} (h : z.cps[i]? = some c) : sgn z i = ⟨#[c]⟩ := by
  have e : z.cps.toList.getD i 0 = c := by
    rw [List.getD_eq_getElem?_getD, Array.getElem?_toList, h]
    rfl
  show (⟨#[z.cps.toList.getD i 0]⟩ : Str) = _
  rw [e]
theorem nice_pair {a b : PyData} (h1 : Dl.nice a [26, 6, 12, 6] = true) (h2 : Dl.nice b [26, 6, 12, 6] = true) : Dl.nice (.tuple [a, b]) [3, 26, 6, 12, 6] = true := by
  rw [Dl.nice_tuple, Dl.niceAll_cons, Dl.niceAll_cons, Dl.niceAll_nil, h1, h2]
  rfl
abbrev okMut (ds : List PyData) : Prop := ∃ (roots : List Str) (its : List Itm), ds = [.tuple [.tuple (roots.map .str), .list (its.map encI)]] ∧ InvOk roots its
abbrev spMut : Sp := Gn.spG 20 okMut fun _ d => Dl.nice d [3, 26, 6, 12, 6] = true
section
variable {P : Program} {w : World} {K : PySem.W.Frag} {mg : Str → Option Value} {base : Heap}
theorem ok_mut {f fD fP fM : Addr} {fd fdD fdP fdM : FuncData} (F : Fun K "_law_mutated" "_law_mutated" sMut f fd) (FD : Fun K "_law_draw" "_law_draw" sDraw fD fdD) (bD : Binds K fdD ["_law_source_here", "_law_limit"] []) (gD : mg "_law_draw" = some (.ref fD)) (GD : FnOk P w K mg base CX0 1 fD fdD ["_law_source_here", "_law_limit"] (spDraw K))
    (FP : Fun K "_law_pick" "_law_pick" sPick fP fdP) (bP : Binds K fdP ["_law_source_here", "_law_values"] []) (gP : mg "_law_pick" = some (.ref fP)) (GP : FnOk P w K mg base CX0 2 fP fdP ["_law_source_here", "_law_values"] (spPick K))
    (FM : Fun K "_law_mutated_item" "_law_mutated_item" sMutI fM fdM) (bM : Binds K fdM ["_law_source_here", "_law_one"] []) (gM : mg "_law_mutated_item" = some (.ref fM)) (GM : FnOk P w K mg base CX0 3 fM fdM ["_law_source_here", "_law_one"] spMutI)
    (ml : mg "len" = none) (mli : mg "list" = none) (mt : mg "tuple" = none) (ms : mg "sorted" = none) : FnOk P w K mg base CX0 4 f fd ["_law_source_here", "_law_inventory_here"] spMut := by
  refine F.ok scMut (fun vs H Q E h => ?_) (fun cdv A outer s H vs Q E hr h => ?_)
  · obtain ⟨S, F, t, ws, ds, rfl, _, ht, ⟨roots, its, rfl, _⟩, _⟩ := h
    exact congrArg Nat.succ ht.length
  · obtain ⟨S, F, t, ws, ds, rfl, at0, ht, ⟨roots, its, rfl, iok⟩, lim, q⟩ := h
    have nd := scMut.nd
    have hr1 : Room 1 (A.deeper (envOfC "_law_mutated" (defScope sMut) s.heap.objs.size f cdv)) := hr.mono (by decide)
    have hr2 : Room 2 (A.deeper (envOfC "_law_mutated" (defScope sMut) s.heap.objs.size f cdv)) := hr.mono (by decide)
    refine ⟨_, pss_cons (ps_asg (pv 1) (pg_tup rfl (pgs_cons (pg_name (i := 2) nd rfl (.inl rfl)) (pgs_cons (pg_name (i := 3) nd rfl (.inl rfl)) pgs_nil))))
      (pss_cons (ps_par (i := 4) (j := 5) (by rfl) nd rfl rfl (by decide) rfl rfl (pa_cons (pe_call GD hr1 (by rfl) gD FD.kp bD .nil pass0 (pa_cons (pv 0) (pa_cons (pe_callB call_len (by rfl) ml PySem.boot_len (pa_cons (pv 3) pa_nil)) pa_nil)))
          (pa_cons (pe_call GD hr1 (by rfl) gD FD.kp bD .nil pass0 (pa_cons (pv 0) (pa_cons (pe_callB call_len (by rfl) ml PySem.boot_len (pa_cons (pv 3) pa_nil)) pa_nil))) pa_nil)) (by rfl))
      (pss_cons (ps_set (i := 6) nd rfl (.inl rfl) (pe_call GD hr1 (by rfl) gD FD.kp bD .nil pass0 (pa_cons (pv 0) (pa_cons pe_int pa_nil))))
      (pss_cons (ps_set (i := 7) nd rfl (.inl rfl) (pe_callTy call_list_of (by rfl) mli (by decide +kernel) (pa_cons (pv 3) pa_nil)))
      (pss_cons (ps_asg (pe_call GM hr (by rfl) gM FM.kp bM .nil pass0 (pa_cons (pv 0) (pa_cons (pe_ix ix_list (pv 3) (pv 4) (fun _ _ => rfl)) pa_nil))) (pg_sub (pv 7) (pv 4) set_list))
      (pss_cons (ps_if (pt_cmpR (op_eqD hr.units) (pv 6) pe_int (nomark _))
        (pss_cons (ps_set (i := 8) nd rfl (.inl rfl) (pe_lst (pa_cons pe_non (pa_cons (pe_lst (pa_cons (pv 2) (pa_cons (pv 3) pa_nil))) (pa_cons (pe_tup (pa_cons (pv 2) pa_nil)) (pa_cons (pe_tup (pa_cons (pv 2) (pa_cons (pv 3) (pa_cons pe_int pa_nil))))
            (pa_cons (pe_tup (pa_cons (pe_callTy call_list_of (by rfl) mli (by decide +kernel) (pa_cons (pv 2) pa_nil)) (pa_cons (pv 3) pa_nil))) (pa_cons (pe_tup (pa_cons (pv 2) (pa_cons (pe_callTy call_tuple_of (by rfl) mt (by decide +kernel) (pa_cons (pv 3) pa_nil)) pa_nil))) pa_nil))))))))
        (pss_cons (ps_set (i := 8) nd rfl (.inl rfl) (pe_op op_cat (pv 8) (pe_lst (pa_cons (pe_tup pa_nil) (pa_cons pe_str (pa_cons (pe_tup (pa_cons pe_non (pa_cons pe_non pa_nil))) (pa_cons (pe_tup (pa_cons (pv 2) (pa_cons pe_non pa_nil))) (pa_cons (pe_tup (pa_cons (pv 2) (pa_cons pe_int pa_nil))) (pa_cons (pe_tup (pa_cons (pv 2) (pa_cons pe_str pa_nil))) pa_nil)))))))))
        (pss_one (ps_ret (pe_call GP hr2 (by rfl) gP FP.kp bP .nil pass0 (pa_cons (pv 0) (pa_cons (pe_op op_cat (pv 8) (pe_lst (pa_cons (pe_tup (pa_cons (pe_slice sl_tupA (pv 2) po_none (po_some pe_int)) (pa_cons (pv 7) pa_nil))) (pa_cons (pe_tup (pa_cons (pe_op op_repO (pv 2) pe_int) (pa_cons (pv 7) pa_nil))) pa_nil)))) pa_nil))))))) pss_nil)
      (pss_cons (ps_if (pt_cmpR (op_eqD hr.units) (pv 6) pe_int (nomark _))
        (pss_cons (ps_set (i := 9) nd rfl (.inl rfl) (pe_call GP hr2 (by rfl) gP FP.kp bP .nil pass0 (pa_cons (pv 0) (pa_cons (pe_lst (pa_cons pe_str (pa_cons pe_str (pa_cons pe_non (pa_cons pe_int (pa_cons pe_str (pa_cons pe_str (pa_cons pe_str (pa_cons (pe_tup (pa_cons pe_str pa_nil)) (pa_cons (pe_lst (pa_cons pe_str pa_nil)) (pa_cons pe_str (pa_cons pe_str pa_nil)))))))))))) pa_nil))))
        (pss_cons (ps_set (i := 8) nd rfl (.inl rfl) (pe_lst (pa_cons (pe_tup (pa_cons (pe_op op_catA (pv 2) (pe_tup (pa_cons (pv 9) pa_nil))) (pa_cons (pv 3) pa_nil))) (pa_cons (pe_tup (pa_cons (pe_slice sl_tupA (pv 2) (po_some pe_int) po_none) (pa_cons (pv 3) pa_nil)))
            (pa_cons (pe_tup (pa_cons (pe_tup (pa_cons (pv 9) pa_nil)) (pa_cons (pv 7) pa_nil))) (pa_cons (pe_tup (pa_cons (pe_slice sl_tupA (pe_op op_repO (pv 2) pe_int) po_none (po_some pe_int)) (pa_cons (pv 3) pa_nil))) pa_nil))))))
        (pss_cons (ps_set (i := 8) nd rfl (.inl rfl) (pe_op op_cat (pv 8) (pe_lst (pa_cons (pe_tup (pa_cons (pe_op op_catA (pe_tup (pa_cons (pv 9) pa_nil)) (pe_slice sl_tupA (pv 2) po_none (po_some pe_int))) (pa_cons (pv 3) pa_nil)))
            (pa_cons (pe_tup (pa_cons (pe_op op_catA (pe_op op_catA (pe_slice sl_tupA (pv 2) po_none (po_some pe_int)) (pe_tup (pa_cons (pv 9) pa_nil))) (pe_slice sl_tupA (pv 2) (po_some pe_int) (po_some pe_int))) (pa_cons (pv 3) pa_nil))) pa_nil)))))
        (pss_one (ps_ret (pe_call GP hr2 (by rfl) gP FP.kp bP .nil pass0 (pa_cons (pv 0) (pa_cons (pv 8) pa_nil)))))))) pss_nil)
      (pss_cons (ps_if (pt_cmpR (op_eqD hr.units) (pv 6) pe_int (nomark _))
        (pss_cons (ps_set (i := 10) nd rfl (.inl rfl) pe_str)
        (pss_cons (ps_setLc (i := 11) (own := [("_law_sign", 14)]) (g := gName 14) (tt := tYes) (te := tTup (tCons (tOp (fun x y H Q => ∃ i j, x = .str i ∧ y = .str j ∧ i.length + j.length ≤ sizeLine ∧ Q (.str (i ++ j)) H) (tC (.str "x")) (tVar 14)) (tCons (tC (.str "k")) (tCons (tTup tNil) tNil)))) (by rfl) nd rfl rfl (sw_true rfl (by rfl) (by rfl) (by rfl)) (pi_str (pv 10))
          (blkOk_by (own := [("_law_sign", 14)]) (N := nMut) (sc := defScope sMut) (by decide +kernel)) (fun _ _ _ _ _ => pg_name (i := 14) nd rfl (.inl rfl)) (fun _ _ _ _ _ => pts_nil) (fun _ _ _ _ _ => pe_tup (pa_cons (pe_op op_add_str pe_str (pv 14)) (pa_cons pe_str (pa_cons (pe_tup pa_nil) pa_nil)))))
        (pss_cons (ps_set (i := 12) nd rfl (.inl rfl) (pe_lst (pa_cons (pe_revL (pv 3)) (pa_cons (pe_lst pa_nil) (pa_cons (pv 11) (pa_cons (pe_slice sl_list (pv 11) po_none (po_some pe_int)) (pa_cons (pe_op op_cat (pv 3) (pe_slice sl_list (pv 3) po_none (po_some pe_int)))
            (pa_cons (pe_op op_cat (pe_slice sl_list (pv 3) (po_some pe_int) po_none) (pe_slice sl_list (pv 3) po_none (po_some pe_int))) pa_nil))))))))
        (pss_one (ps_ret (pe_tup (pa_cons (pv 2) (pa_cons (pe_call GP hr2 (by rfl) gP FP.kp bP .nil pass0 (pa_cons (pv 0) (pa_cons (pv 12) pa_nil))) pa_nil)))))))) pss_nil)
      (pss_cons (ps_if (pt_cmpR (op_eqD hr.units) (pv 6) pe_int (nomark _))
        (pss_cons (ps_setLc (i := 13) (own := [("_law_sign", 14)]) (g := gName 14) (tt := tYes) (te := tTup (tCons (tOp (fun x y H Q => ∃ i j, x = .str i ∧ y = .str j ∧ i.length + j.length ≤ sizeLine ∧ Q (.str (i ++ j)) H) (tC (.str "o")) (tVar 14)) (tCons (tOp (fun x y H Q => ∃ i j, x = .str i ∧ y = .str j ∧ i.length + j.length ≤ sizeLine ∧ Q (.str (i ++ j)) H) (tC (.str "kk")) (tVar 14)) (tCons (tTup tNil) tNil)))) (by rfl) nd rfl rfl (sw_true rfl (by rfl) (by rfl) (by rfl)) (pi_str pe_str)
          (blkOk_by (own := [("_law_sign", 14)]) (N := nMut) (sc := defScope sMut) (by decide +kernel)) (fun _ _ _ _ _ => pg_name (i := 14) nd rfl (.inl rfl)) (fun _ _ _ _ _ => pts_nil) (fun _ _ _ _ _ => pe_tup (pa_cons (pe_op op_add_str pe_str (pv 14)) (pa_cons (pe_op op_add_str pe_str (pv 14)) (pa_cons (pe_tup pa_nil) pa_nil)))))
        (pss_one (ps_ret (pe_tup (pa_cons (pv 2) (pa_cons (pe_callB (SortD.cr_sortedData hr.units) (by rfl) ms (by decide +kernel) (pa_cons (pe_op op_cat (pe_slice sl_list (pv 3) po_none (po_some pe_int))
            (pe_slice sl_list (pv 13) po_none (po_some (pe_op op_add pe_int (pe_call GD hr1 (by rfl) gD FD.kp bD .nil pass0 (pa_cons (pv 0) (pa_cons pe_int pa_nil))))))) pa_nil)) pa_nil)))))) pss_nil)
      (pss_cons (ps_if (pt_cmpR (op_eqD hr.units) (pv 6) pe_int (nomark _))
        (pss_one (ps_asg (pe_call GM hr (by rfl) gM FM.kp bM .nil pass0 (pa_cons (pv 0) (pa_cons (pe_ix ix_list (pv 3) (pv 5) (fun _ _ => rfl)) pa_nil))) (pg_sub (pv 7) (pv 5) set_list))) pss_nil)
      (pss_one (ps_ret (pe_tup (pa_cons (pv 2) (pa_cons (pv 7) pa_nil)))))))))))))), ?_⟩
    cases ht with
    | @cons x1 _ _ _ hx1 tl =>
    cases tl
    refine Dl.q_tup (F := F) (Dl.var rfl hx1) rfl at0.i fun xs F1 H1 s1 hxs => ?_
    cases hxs with
    | @cons vr _ _ _ hvr tl =>
    cases tl with
    | @cons vi _ _ _ hvi tl =>
    cases tl
    refine ⟨_, _, rfl, _, _, rfl, rfl, ?_⟩
    have a1 := at0.step s1
    have n1 := iok.n1
    have n24 := iok.n24
    have lenI : (its.map encI).length = its.length := List.length_map _
    have getI : ∀ j, j < its.length → ∃ it ∈ its, (its.map encI)[j]? = some (encI it) := fun j hj => ⟨its[j], List.getElem_mem hj, by rw [List.getElem?_map, List.getElem?_eq_getElem hj]; rfl⟩
    -- two places
    have drw : ∀ (σ : L2.St), Gn.Holds S σ 0 → σ[3]? = some (some vi) → Gn.EvG S (tCall (spDraw K) [] E0 (tCons (tVar 0) (tCons (tCB (Dl.rLenA K) (tCons (tVar 3) tNil)) tNil))) σ F1 1 (fun d => ∃ j : Nat, d = .int (j : Int) ∧ j < its.length) := fun σ h0 h3 =>
      Gn.drawM (S := S) (i := 0) (M := its.length) h0 (Gn.pure (Dl.call (Dl.cons (Dl.var h3 hvi) Dl.nil) (Dl.len (n := its.length) (congrArg some lenI)))) (by omega) (by omega)
    refine Gn.q_par (n := 2) (Ps := fun ds => ∃ j k : Nat, ds = [.int (j : Int), .int (k : Int)] ∧ j < its.length ∧ k < its.length) (Gn.EvGA.weak (Gn.cons (drw _ rfl rfl) (Gn.cons (drw _ rfl rfl) Gn.nil)) (by decide) (fun ds h => by
        obtain ⟨d, es, rfl, ⟨j, rfl, hj⟩, d2, es2, rfl, ⟨k, rfl, hk⟩, rfl⟩ := h
        exact ⟨j, k, rfl, hj, hk⟩)) (fun ds h => by
        obtain ⟨j, k, rfl, _⟩ := h
        exact ⟨_, _, rfl⟩) a1 (by omega) fun xa xb d e F2 H2 t2 s2 a2 l2 ta tb hab => ?_
    obtain ⟨ja, jb, e1, hja, hjb⟩ := hab
    cases e1
    cases ta
    cases tb
    refine Gn.q_asg (n := 1) (P := fun d => ∃ j : Nat, d = .int (j : Int) ∧ j < 7) (Gn.drawM (S := S) (i := 0) (M := 7) rfl (Gn.pure Dl.int) (by decide) (by decide)) a2 (by omega) fun xv d F3 H3 t3 s3 a3 l3 tv hv => ?_
    obtain ⟨v, rfl, hv7⟩ := hv
    cases tv
    -- the copy
    have hvi3 := (hvi.mono s2.f).mono s3.f
    have hvr3 := (hvr.mono s2.f).mono s3.f
    have hvi3' := hvi3
    cases hvi3' with
    | @lst li yi _ gi ti =>
    refine Gn.q_any ⟨_, rfl, li, yi, rfl, .inl (.inl (.inl (a3.i _ _ gi))), fun p hp => ?_⟩
    have fp : F3 p = none := Evl.fresh_back a3.i hp
    have np := Gn.At.apart a3 hp
    have s4 : Dl.Stp F3 H3 F3 (upd H3 p (.lst yi)) := .hid a3.i hp
    have a4 := a3.step s4
    have sg4 : Gn.Stg S F H F3 (upd H3 p (.lst yi)) := (((Gn.Stg.of s1).trans s2).trans s3).trans (.of s4)
    have hp0 : H p = none := by
      have sg3 : Gn.Stg S F H F3 H3 := ((Gn.Stg.of s1).trans s2).trans s3
      cases z : H p with
      | none => rfl
      | some o => exact absurd hp (sg3.d p (by rw [z]; exact fun y => nomatch y))
    -- one item is changed
    have mi : ∀ (σ : L2.St) (F' : Hp) (j c : Nat), Evl.Ex F3 F' → Gn.Holds S σ 0 → σ[3]? = some (some (.ref li)) → σ[c]? = some (some (.int (j : Int))) → j < its.length → Gn.EvG S (tCall spMutI [] E0 (tCons (tVar 0) (tCons (tOp (rIxL K) (tVar 3) (tVar c)) tNil))) σ F' 2 (fun d => Dl.nice d [6, 12, 6] = true) := fun σ F' j c e h0 h3 hc hj => by
      obtain ⟨it, hit, hg⟩ := getI j hj
      exact Gn.EvG.weak (Gn.callG (S := S) (i := 0) (ok := okMutI) (Pf := fun _ d => Dl.nice d [6, 12, 6] = true) h0 (Gn.cons (Gn.pure (Dl.op (Dl.var h3 (hvi3.mono e)) (Dl.var hc (.int _)) (Dl.ixL hg))) Gn.nil) (fun ds h => by
        obtain ⟨d, es, rfl, rfl, rfl⟩ := h
        exact ⟨it, rfl, iok.itm it hit⟩)) (by decide) (fun d h => by
        obtain ⟨_, _, h⟩ := h
        exact h)
    have til : yi.length = its.length := by rw [ti.length, lenI]
    refine Gn.q_sto (n := 2) (P := fun d => Dl.nice d [6, 12, 6] = true) (mi _ F3 ja 4 (Evl.Ex.refl _) rfl rfl rfl hja) a4 (by omega) rfl rfl fp np upd_same ti ja (ixN_nat (by omega)) fun dc F5 H5 t5 ys s5 a5 l5 f5 hd ty => ?_
    have a6 := a5.mut (o := .lst ys) f5 np.1 np.2
    have sg6 := (sg4.trans s5).mut (o := .lst ys) hp0 f5
    have h6 : upd H5 p (.lst ys) p = some (.lst ys) := upd_same
    have lenC : ((its.map encI).set ja dc).length = its.length := by rw [List.length_set, lenI]
    have nI : ∀ d ∈ its.map encI, Dl.nice d [6, 12, 6] = true := fun d hd => by
      obtain ⟨it, hit, rfl⟩ := List.mem_map.mp hd
      exact (iok.itm it hit).nice
    have nC : ∀ d ∈ (its.map encI).set ja dc, Dl.nice d [6, 12, 6] = true := fun d hd2 => by
      rcases List.mem_or_eq_of_mem_set hd2 with z | z
      · exact nI d z
      · rw [z]
        exact hd
    have hvi5 := hvi3.mono s5.f
    have hvr5 := hvr3.mono s5.f
    generalize (its.map encI).set ja dc = cs at ty lenC nC
    generalize upd H5 p (.lst ys) = H6 at a6 sg6 h6 ⊢
    have e35 := s5.f
    clear s5 a5 sg4 a4 s4 s3 a3 s2 a2 s1 a1 at0 drw hd ti gi
    have lR : (roots.map PyData.str).length ≤ 4 := by
      rw [List.length_map]
      exact iok.r4
    have row : ∀ xs : List PyData, xs.length ≤ 26 → (∀ d ∈ xs, Dl.nice d [6, 12, 6] = true) → Dl.nice (.tuple xs) [26, 6, 12, 6] = true ∧ Dl.nice (.list xs) [26, 6, 12, 6] = true := fun xs h1 h2 => ⟨(Dl.nice_row h1 h2).2.2, (Dl.nice_row h1 h2).2.1⟩
    have nR : ∀ d ∈ roots.map PyData.str, Dl.nice d [6, 12, 6] = true := nice_strs (n := 0) fun z hz => nice_kinds z (iok.rk z hz)
    have wR := row _ (by omega) nR
    have wI := row (its.map encI) (by omega) nI
    by_cases v4 : v = 4
    · subst v4
      refine Dl.q_when (F := F5) (c := decide ((4 : Int) = 0)) (Dl.eqI rfl) a6.i (fun hc => absurd (of_decide_eq_true hc) (by decide)) (fun _ F7 H7 s7 => ?_)
      refine Dl.q_when (F := F7) (c := decide ((4 : Int) = 1)) (Dl.eqI rfl) s7.i (fun hc => absurd (of_decide_eq_true hc) (by decide)) (fun _ F8 H8 s8 => ?_)
      refine Dl.q_when (F := F8) (c := decide ((4 : Int) = 2)) (Dl.eqI rfl) s8.i (fun hc => absurd (of_decide_eq_true hc) (by decide)) (fun _ F9 H9 s9 => ?_)
      refine Dl.q_when (F := F9) (c := decide ((4 : Int) = 3)) (Dl.eqI rfl) s9.i (fun hc => absurd (of_decide_eq_true hc) (by decide)) (fun _ F10 H10 s10 => ?_)
      refine Dl.q_when (F := F10) (c := decide ((4 : Int) = 4)) (Dl.eqI rfl) s10.i (fun _ F11 H11 s11 => ?_) (fun hc => absurd rfl (of_decide_eq_false hc))
      have st := (((s7.trans s8).trans s9).trans s10).trans s11
      have a11 := a6.step st
      have sg11 := sg6.trans (.of st)
      have f11 : F11 p = none := st.n p f5 (by rw [h6]; exact fun z => nomatch z)
      have h11 := st.h _ _ h6
      have tyl : ys.length = its.length := by rw [ty.length, lenC]
      refine Gn.s_sto (n := 2) (P := fun d => Dl.nice d [6, 12, 6] = true) (mi _ F11 jb 5 (e35.trans st.f) rfl rfl rfl hjb) a11 (by omega) rfl rfl f11 np h11 (ty.mono st.f) jb (ixN_nat (by omega)) fun de F12 H12 t12 ys2 s12 a12 l12 f12 hde ty2 => ?_
      have h13 : upd H12 p (.lst ys2) p = some (.lst ys2) := upd_same
      have a13 := (a12.mut (o := .lst ys2) f12 np.1 np.2).own np.1 np.2 f12 h13
      have sg13 := ((sg11.trans s12).mut (o := .lst ys2) hp0 f12).own hp0 f12 h13
      have ex13 : Evl.Ex F12 (upd F12 p (.lst ys2)) := Evl.Ex.new f12
      have nC2 : ∀ d ∈ cs.set jb de, Dl.nice d [6, 12, 6] = true := fun d hd2 => by
        rcases List.mem_or_eq_of_mem_set hd2 with z | z
        · exact nC d z
        · rw [z]
          exact hde
      have wC := row (cs.set jb de) (by rw [List.length_set]; omega) nC2
      refine Dl.s_ret (F := upd F12 p (.lst ys2)) (Dl.tup (Dl.cons (Dl.var rfl (hvr5.mono ((st.f.trans s12.f).trans ex13))) (Dl.cons (Dl.var rfl (.lst upd_same (ty2.mono ex13))) Dl.nil)) (by show 2 ≤ 100000; decide)) a13.i fun y F14 H14 s14 t14 => ?_
      refine q y _ F14 H14 t12 (sg13.trans (.of s14)) (a13.step s14) (by omega) t14 ?_
      exact nice_pair wR.1 wC.2
    · -- the changed list is shared from now on
      have aF := a6.own np.1 np.2 f5 h6
      have sF := sg6.own hp0 f5 h6
      have exF : Evl.Ex F5 (upd F5 p (.lst ys)) := Evl.Ex.new f5
      have tC : Dl.Tl (upd F5 p (.lst ys)) (.ref p) (.list cs) := .lst upd_same (ty.mono exF)
      have tI := hvi5.mono exF
      have tR := hvr5.mono exF
      have wC := row cs (by omega) nC
      generalize upd F5 p (.lst ys) = F6 at aF sF tC tI tR
      clear exF a6 sg6 ty hvi5 hvr5
      have neR : roots.map PyData.str ≠ [] := fun z => by
        have r1 := iok.r1
        rw [← List.length_map (f := PyData.str), z] at r1
        exact absurd r1 (by decide)
      have flen : (List.replicate (5 : Int).toNat (roots.map PyData.str)).flatten.length ≤ 20 := by
        show (List.replicate 5 (roots.map PyData.str)).flatten.length ≤ 20
        rw [List.length_flatten]
        simp only [List.map_replicate, List.sum_replicate_nat]
        omega
      have fmem : ∀ d ∈ (List.replicate (5 : Int).toNat (roots.map PyData.str)).flatten, Dl.nice d [6, 12, 6] = true := fun d hd => by
        obtain ⟨r, hr, hd2⟩ := List.mem_flatten.mp hd
        rw [(List.mem_replicate.mp hr).2] at hd2
        exact nR d hd2
      have rowR : ∀ lo hi, Dl.nice (.tuple (Dl.cutD (roots.map .str) lo hi)) [26, 6, 12, 6] = true := fun lo hi => (row _ (Nat.le_trans Dl.cutD_len (by omega)) fun d hd => nR d (Dl.cutD_mem hd)).1
      have rowF := (row _ (Nat.le_trans flen (by decide)) fmem).1
      have rowFc : Dl.nice (.tuple (Dl.cutD (List.replicate (5 : Int).toNat (roots.map PyData.str)).flatten none (some 4))) [26, 6, 12, 6] = true := (row _ (Nat.le_trans Dl.cutD_len (by omega)) fun d hd => fmem d (Dl.cutD_mem hd)).1
      have nn : Dl.nice .none [26, 6, 12, 6] = true := rfl
      have nn5 : Dl.nice .none [3, 26, 6, 12, 6] = true := rfl
      have ni0 : Dl.nice (.int 0) [26, 6, 12, 6] = true := rfl
      have ni7 : Dl.nice (.int 7) [26, 6, 12, 6] = true := rfl
      have nsk : Dl.nice (.str "k") [26, 6, 12, 6] = true := by decide +kernel
      have nsi : Dl.nice (.str "inventory") [3, 26, 6, 12, 6] = true := by decide +kernel
      by_cases v0 : v = 0
      · subst v0
        refine Dl.q_when (F := F6) (c := decide ((0 : Int) = 0)) (Dl.eqI rfl) aF.i (fun _ F7 H7 s7 => ?_) (fun hc => absurd rfl (of_decide_eq_false hc))
        have tR := tR.mono s7.f
        have tI := tI.mono s7.f
        have tC := tC.mono s7.f
        refine Dl.q_asg (F := F7) (Dl.lst (ds := [PyData.none, .list [PyData.tuple (roots.map .str), PyData.list (its.map encI)], .tuple [PyData.tuple (roots.map .str)], .tuple [PyData.tuple (roots.map .str), PyData.list (its.map encI), .int 0], .tuple [.list (roots.map .str), PyData.list (its.map encI)], .tuple [PyData.tuple (roots.map .str), .tuple (its.map encI)]]) (Dl.cons Dl.non (Dl.cons (Dl.lst (Dl.cons (Dl.var rfl tR) (Dl.cons (Dl.var rfl tI) Dl.nil)) (by show 2 ≤ 100000; decide)) (Dl.cons (Dl.tup (Dl.cons (Dl.var rfl tR) Dl.nil) (by show 1 ≤ 100000; decide)) (Dl.cons (Dl.tup (Dl.cons (Dl.var rfl tR) (Dl.cons (Dl.var rfl tI) (Dl.cons Dl.int Dl.nil))) (by show 3 ≤ 100000; decide)) (Dl.cons (Dl.tup (Dl.cons (Dl.call (Dl.cons (Dl.var rfl tR) Dl.nil) Gn.listOf) (Dl.cons (Dl.var rfl tI) Dl.nil)) (by show 2 ≤ 100000; decide)) (Dl.cons (Dl.tup (Dl.cons (Dl.var rfl tR) (Dl.cons (Dl.call (Dl.cons (Dl.var rfl tI) Dl.nil) Gn.tupOf) Dl.nil)) (by show 2 ≤ 100000; decide)) Dl.nil)))))) (by show 6 ≤ 100000; decide)) s7.i fun vs8 F8 H8 s8 ts8 => ?_
        have tR := tR.mono s8.f
        have tI := tI.mono s8.f
        have tC := tC.mono s8.f
        have g1 : Dl.niceAll [PyData.none, .list [PyData.tuple (roots.map .str), PyData.list (its.map encI)], .tuple [PyData.tuple (roots.map .str)], .tuple [PyData.tuple (roots.map .str), PyData.list (its.map encI), .int 0], .tuple [.list (roots.map .str), PyData.list (its.map encI)], .tuple [PyData.tuple (roots.map .str), .tuple (its.map encI)]] [3, 26, 6, 12, 6] = true := by
          simp only [Dl.niceAll_cons, Dl.niceAll_nil, Dl.nice_tuple (m := 3), Dl.nice_list (m := 3), wR, wI, nn5, ni0, Bool.and_true, List.length_cons, List.length_nil]
          rfl
        obtain ⟨L1, e1⟩ : ∃ L, L = [PyData.none, .list [PyData.tuple (roots.map .str), PyData.list (its.map encI)], .tuple [PyData.tuple (roots.map .str)], .tuple [PyData.tuple (roots.map .str), PyData.list (its.map encI), .int 0], .tuple [.list (roots.map .str), PyData.list (its.map encI)], .tuple [PyData.tuple (roots.map .str), .tuple (its.map encI)]] := ⟨_, rfl⟩
        rw [← e1] at g1 ts8
        have n1 : L1.length = 6 := by
          rw [e1]
          rfl
        clear e1
        refine Dl.q_asg (F := F8) (Dl.op (Dl.var rfl ts8) (Dl.lst (ds := [PyData.tuple [], .str "inventory", .tuple [.none, .none], .tuple [PyData.tuple (roots.map .str), .none], .tuple [PyData.tuple (roots.map .str), .int 7], .tuple [PyData.tuple (roots.map .str), .str "k"]]) (Dl.cons (Dl.tup Dl.nil (by show 0 ≤ 100000; decide)) (Dl.cons Dl.str (Dl.cons (Dl.tup (Dl.cons Dl.non (Dl.cons Dl.non Dl.nil)) (by show 2 ≤ 100000; decide)) (Dl.cons (Dl.tup (Dl.cons (Dl.var rfl tR) (Dl.cons Dl.non Dl.nil)) (by show 2 ≤ 100000; decide)) (Dl.cons (Dl.tup (Dl.cons (Dl.var rfl tR) (Dl.cons Dl.int Dl.nil)) (by show 2 ≤ 100000; decide)) (Dl.cons (Dl.tup (Dl.cons (Dl.var rfl tR) (Dl.cons Dl.str Dl.nil)) (by show 2 ≤ 100000; decide)) Dl.nil)))))) (by show 6 ≤ 100000; decide)) (Dl.cat (by rw [n1]; show 6 + 6 ≤ 100000; decide))) s8.i fun vs9 F9 H9 s9 ts9 => ?_
        have tR := tR.mono s9.f
        have tC := tC.mono s9.f
        have g2 : Dl.niceAll [PyData.tuple [], .str "inventory", .tuple [.none, .none], .tuple [PyData.tuple (roots.map .str), .none], .tuple [PyData.tuple (roots.map .str), .int 7], .tuple [PyData.tuple (roots.map .str), .str "k"]] [3, 26, 6, 12, 6] = true := by
          simp only [Dl.niceAll_cons, Dl.niceAll_nil, Dl.nice_tuple (m := 3), wR, nn, ni7, nsk, nsi, Bool.and_true, List.length_cons, List.length_nil]
          rfl
        have g3 : Dl.niceAll [PyData.tuple [.tuple (Dl.cutD (roots.map .str) none (some 0)), PyData.list cs], .tuple [.tuple (List.replicate (5 : Int).toNat (roots.map PyData.str)).flatten, PyData.list cs]] [3, 26, 6, 12, 6] = true := by
          simp only [Dl.niceAll_cons, Dl.niceAll_nil, Dl.nice_tuple (m := 3), rowR, rowF, wC, Bool.and_true, List.length_cons, List.length_nil]
          rfl
        have g12 := niceAll_app g1 g2
        obtain ⟨L2, e2⟩ : ∃ L, L = L1 ++ [PyData.tuple [], .str "inventory", .tuple [.none, .none], .tuple [PyData.tuple (roots.map .str), .none], .tuple [PyData.tuple (roots.map .str), .int 7], .tuple [PyData.tuple (roots.map .str), .str "k"]] := ⟨_, rfl⟩
        rw [← e2] at g12 ts9
        have n2 : L2.length = 12 := by
          rw [e2, List.length_append, n1]
          rfl
        have st := (s7.trans s8).trans s9
        refine Gn.s_ret (n := 1) (P := fun d => Dl.nice d [3, 26, 6, 12, 6] = true) (Gn.EvG.weak (Gn.pick (S := S) (i := 0) (P := (· = .list (L2 ++ [PyData.tuple [.tuple (Dl.cutD (roots.map .str) none (some 0)), PyData.list cs], .tuple [.tuple (List.replicate (5 : Int).toNat (roots.map PyData.str)).flatten, PyData.list cs]]))) rfl (Gn.pure (Dl.op (Dl.var rfl ts9) (Dl.lst (Dl.cons (Dl.tup (Dl.cons (Dl.slT (Dl.var rfl tR) Dl.noPart (Dl.part Dl.int)) (Dl.cons (Dl.var rfl tC) Dl.nil)) (by show 2 ≤ 100000; decide)) (Dl.cons (Dl.tup (Dl.cons (Dl.op (Dl.var rfl tR) Dl.int (Dl.repO (k := 5) neR (by decide) (by omega))) (Dl.cons (Dl.var rfl tC) Dl.nil)) (by show 2 ≤ 100000; decide)) Dl.nil)) (by show 2 ≤ 100000; decide)) (Dl.cat (by rw [n2]; show 12 + 2 ≤ 100000; decide)))) (fun d e => ⟨_, e, by rw [List.length_append, n2]; omega, by rw [List.length_append, n2]; show 12 + 2 ≤ 100000; decide⟩)) (by decide) (fun d h => by
          obtain ⟨ds, e, hd⟩ := h
          have e' := PyData.list.inj e
          subst e'
          exact Dl.niceAll_iff.mp (niceAll_app g12 g3) d hd)) (aF.step st) (by omega) fun y d F10 H10 t10 s10 a10 l10 ty hy => ?_
        exact q y d F10 H10 t10 ((sF.trans (.of st)).trans s10) a10 (by omega) ty hy
      by_cases v1 : v = 1
      · subst v1
        refine Dl.q_when (F := F6) (c := decide ((1 : Int) = 0)) (Dl.eqI rfl) aF.i (fun hc => absurd (of_decide_eq_true hc) (by omega)) (fun _ F7 H7 s7 => ?_)
        refine Dl.q_when (F := F7) (c := decide ((1 : Int) = 1)) (Dl.eqI rfl) s7.i (fun _ F8 H8 s8 => ?_) (fun hc => absurd rfl (of_decide_eq_false hc))
        have st8 := s7.trans s8
        refine Gn.q_asg (n := 1) (P := fun d => Dl.nice d [6] = true) (Gn.EvG.weak (Gn.pick (S := S) (i := 0) (P := (· = .list labels2)) rfl (Gn.pure (Dl.lst (Dl.cons Dl.str (Dl.cons Dl.str (Dl.cons Dl.non (Dl.cons Dl.int (Dl.cons Dl.str (Dl.cons Dl.str (Dl.cons Dl.str (Dl.cons (Dl.tup (Dl.cons Dl.str Dl.nil) (by show 1 ≤ 100000; decide)) (Dl.cons (Dl.lst (Dl.cons Dl.str Dl.nil) (by show 1 ≤ 100000; decide)) (Dl.cons Dl.str (Dl.cons Dl.str Dl.nil))))))))))) (by decide))) (fun d e => ⟨labels2, e, by decide, by decide⟩)) (by decide) (fun d h => by
          obtain ⟨ds, e, hd⟩ := h
          have e' := PyData.list.inj e
          subst e'
          exact nice_labels2 d hd)) (aF.step st8) (by omega) fun vb l F9 H9 t9 s9 a9 l9 tb hb => ?_
        have tR := tR.mono (st8.f.trans s9.f)
        have tI := tI.mono (st8.f.trans s9.f)
        have tC := tC.mono (st8.f.trans s9.f)
        have nl : Dl.nice l [6, 12, 6] = true := Dl.nice_wider hb (by decide)
        have in1 : ∀ d ∈ [l], Dl.nice d [6, 12, 6] = true := fun d hd => by
          rw [List.mem_singleton.mp hd]
          exact nl
        have app : ∀ {a b : List PyData}, (∀ d ∈ a, Dl.nice d [6, 12, 6] = true) → (∀ d ∈ b, Dl.nice d [6, 12, 6] = true) → ∀ d ∈ a ++ b, Dl.nice d [6, 12, 6] = true := fun {a b} h1 h2 d hd => by
          rcases List.mem_append.mp hd with z | z
          · exact h1 d z
          · exact h2 d z
        have cR : ∀ lo hi, ∀ d ∈ Dl.cutD (roots.map PyData.str) lo hi, Dl.nice d [6, 12, 6] = true := fun lo hi d hd => nR d (Dl.cutD_mem hd)
        have cl : ∀ lo hi, (Dl.cutD (roots.map PyData.str) lo hi).length ≤ 4 := fun lo hi => Nat.le_trans Dl.cutD_len lR
        have len1 : [l].length = 1 := rfl
        have c1 := cl none (some 3)
        have c2 := cl none (some 1)
        have c3 := cl (some 1) (some 3)
        have r1 := (row (roots.map PyData.str ++ [l]) (by rw [List.length_append]; omega) (app nR in1)).1
        have r2 := (row [l] (by omega) in1).1
        have r3 := (row ([l] ++ Dl.cutD (roots.map PyData.str) none (some 3)) (by rw [List.length_append]; omega) (app in1 (cR _ _))).1
        have r4 := (row ((Dl.cutD (roots.map PyData.str) none (some 1) ++ [l]) ++ Dl.cutD (roots.map PyData.str) (some 1) (some 3)) (by rw [List.length_append, List.length_append]; omega) (app (app (cR _ _) in1) (cR _ _))).1
        refine Dl.q_asg (F := F9) (Dl.lst (ds := [PyData.tuple [.tuple (roots.map .str ++ [l]), PyData.list (its.map encI)], .tuple [.tuple (Dl.cutD (roots.map .str) (some 1) none), PyData.list (its.map encI)], .tuple [.tuple [l], PyData.list cs], .tuple [.tuple (Dl.cutD (List.replicate (5 : Int).toNat (roots.map PyData.str)).flatten none (some 4)), PyData.list (its.map encI)]]) (Dl.cons (Dl.tup (Dl.cons (Dl.op (Dl.var rfl tR) (Dl.tup (Dl.cons (Dl.var rfl tb) Dl.nil) (by show 1 ≤ 100000; decide)) (Dl.catT (by rw [len1]; omega))) (Dl.cons (Dl.var rfl tI) Dl.nil)) (by show 2 ≤ 100000; decide)) (Dl.cons (Dl.tup (Dl.cons (Dl.slT (Dl.var rfl tR) (Dl.part Dl.int) Dl.noPart) (Dl.cons (Dl.var rfl tI) Dl.nil)) (by show 2 ≤ 100000; decide)) (Dl.cons (Dl.tup (Dl.cons (Dl.tup (Dl.cons (Dl.var rfl tb) Dl.nil) (by show 1 ≤ 100000; decide)) (Dl.cons (Dl.var rfl tC) Dl.nil)) (by show 2 ≤ 100000; decide)) (Dl.cons (Dl.tup (Dl.cons (Dl.slT (Dl.op (Dl.var rfl tR) Dl.int (Dl.repO (k := 5) neR (by decide) (by omega))) Dl.noPart (Dl.part Dl.int)) (Dl.cons (Dl.var rfl tI) Dl.nil)) (by show 2 ≤ 100000; decide)) Dl.nil)))) (by show 4 ≤ 100000; decide)) a9.i fun vs10 F10 H10 s10 ts10 => ?_
        have tR := tR.mono s10.f
        have tI := tI.mono s10.f
        have tb := tb.mono s10.f
        have g1 : Dl.niceAll [PyData.tuple [.tuple (roots.map .str ++ [l]), PyData.list (its.map encI)], .tuple [.tuple (Dl.cutD (roots.map .str) (some 1) none), PyData.list (its.map encI)], .tuple [.tuple [l], PyData.list cs], .tuple [.tuple (Dl.cutD (List.replicate (5 : Int).toNat (roots.map PyData.str)).flatten none (some 4)), PyData.list (its.map encI)]] [3, 26, 6, 12, 6] = true := by
          simp only [Dl.niceAll_cons, Dl.niceAll_nil, Dl.nice_tuple (m := 3), r1, r2, rowR, rowFc, wI, wC, Bool.and_true, List.length_cons, List.length_nil]
          rfl
        obtain ⟨L1, e1⟩ : ∃ L, L = [PyData.tuple [.tuple (roots.map .str ++ [l]), PyData.list (its.map encI)], .tuple [.tuple (Dl.cutD (roots.map .str) (some 1) none), PyData.list (its.map encI)], .tuple [.tuple [l], PyData.list cs], .tuple [.tuple (Dl.cutD (List.replicate (5 : Int).toNat (roots.map PyData.str)).flatten none (some 4)), PyData.list (its.map encI)]] := ⟨_, rfl⟩
        rw [← e1] at g1 ts10
        have n1 : L1.length = 4 := by
          rw [e1]
          rfl
        clear e1
        refine Dl.q_asg (F := F10) (Dl.op (Dl.var rfl ts10) (Dl.lst (ds := [PyData.tuple [.tuple ([l] ++ Dl.cutD (roots.map .str) none (some 3)), PyData.list (its.map encI)], .tuple [.tuple ((Dl.cutD (roots.map .str) none (some 1) ++ [l]) ++ Dl.cutD (roots.map .str) (some 1) (some 3)), PyData.list (its.map encI)]]) (Dl.cons (Dl.tup (Dl.cons (Dl.op (Dl.tup (Dl.cons (Dl.var rfl tb) Dl.nil) (by show 1 ≤ 100000; decide)) (Dl.slT (Dl.var rfl tR) Dl.noPart (Dl.part Dl.int)) (Dl.catT (by rw [len1]; omega))) (Dl.cons (Dl.var rfl tI) Dl.nil)) (by show 2 ≤ 100000; decide)) (Dl.cons (Dl.tup (Dl.cons (Dl.op (Dl.op (Dl.slT (Dl.var rfl tR) Dl.noPart (Dl.part Dl.int)) (Dl.tup (Dl.cons (Dl.var rfl tb) Dl.nil) (by show 1 ≤ 100000; decide)) (Dl.catT (by rw [len1]; omega))) (Dl.slT (Dl.var rfl tR) (Dl.part Dl.int) (Dl.part Dl.int)) (Dl.catT (by rw [List.length_append, len1]; omega))) (Dl.cons (Dl.var rfl tI) Dl.nil)) (by show 2 ≤ 100000; decide)) Dl.nil)) (by show 2 ≤ 100000; decide)) (Dl.cat (by rw [n1]; show 4 + 2 ≤ 100000; decide))) s10.i fun vs11 F11 H11 s11 ts11 => ?_
        have g2 : Dl.niceAll [PyData.tuple [.tuple ([l] ++ Dl.cutD (roots.map .str) none (some 3)), PyData.list (its.map encI)], .tuple [.tuple ((Dl.cutD (roots.map .str) none (some 1) ++ [l]) ++ Dl.cutD (roots.map .str) (some 1) (some 3)), PyData.list (its.map encI)]] [3, 26, 6, 12, 6] = true := by
          simp only [Dl.niceAll_cons, Dl.niceAll_nil, Dl.nice_tuple (m := 3), r3, r4, wI, Bool.and_true, List.length_cons, List.length_nil]
          rfl
        have g12 := niceAll_app g1 g2
        obtain ⟨L2, e2⟩ : ∃ L, L = L1 ++ [PyData.tuple [.tuple ([l] ++ Dl.cutD (roots.map .str) none (some 3)), PyData.list (its.map encI)], .tuple [.tuple ((Dl.cutD (roots.map .str) none (some 1) ++ [l]) ++ Dl.cutD (roots.map .str) (some 1) (some 3)), PyData.list (its.map encI)]] := ⟨_, rfl⟩
        rw [← e2] at g12 ts11
        have n2 : L2.length = 6 := by
          rw [e2, List.length_append, n1]
          rfl
        have st := s10.trans s11
        refine Gn.s_ret (n := 1) (P := fun d => Dl.nice d [3, 26, 6, 12, 6] = true) (Gn.EvG.weak (Gn.pick (S := S) (i := 0) (P := (· = .list L2)) rfl (Gn.pure (Dl.var rfl ts11)) (fun d e => ⟨_, e, by omega, by omega⟩)) (by decide) (fun d h => by
          obtain ⟨ds, e, hd⟩ := h
          have e' := PyData.list.inj e
          subst e'
          exact Dl.niceAll_iff.mp g12 d hd)) (a9.step st) (by omega) fun y d F12 H12 t12 s12 a12 l12 ty hy => ?_
        exact q y d F12 H12 t12 ((((sF.trans (.of st8)).trans s9).trans (.of st)).trans s12) a12 (by omega) ty hy
      by_cases v2 : v = 2
      · subst v2
        refine Dl.q_when (F := F6) (c := decide ((2 : Int) = 0)) (Dl.eqI rfl) aF.i (fun hc => absurd (of_decide_eq_true hc) (by omega)) (fun _ F7 H7 s7 => ?_)
        refine Dl.q_when (F := F7) (c := decide ((2 : Int) = 1)) (Dl.eqI rfl) s7.i (fun hc => absurd (of_decide_eq_true hc) (by omega)) (fun _ F8 H8 s8 => ?_)
        refine Dl.q_when (F := F8) (c := decide ((2 : Int) = 2)) (Dl.eqI rfl) s8.i (fun _ F9 H9 s9 => ?_) (fun hc => absurd rfl (of_decide_eq_false hc))
        refine Dl.q_asg (F := F9) Dl.str s9.i fun vl F10 H10 s10 t10 => ?_
        refine Dl.q_asg (F := F10) (Dl.is_ (d := .list many25) (Dl.lcS (z := "abcdefghijklmnopqrstuvwxy") (fun _ => true) (fun i => .tuple [.str (("x" : Str) ++ sgn "abcdefghijklmnopqrstuvwxy" i), .str "k", .tuple []]) (Dl.var rfl t10) (by decide +kernel) (fun _ => rfl) (fun _ _ _ _ _ => Dl.tyes) (fun i c G eg hi _ => Dl.is_ (Dl.tup (Dl.cons (Dl.op Dl.str (Dl.var rfl (.str _)) (Dl.strCat (by rw [sizeLine_eq]; exact (by decide : 2 ≤ 16777216)))) (Dl.cons Dl.str (Dl.cons (Dl.tup Dl.nil (by show 0 ≤ 100000; decide)) Dl.nil))) (by show 3 ≤ 100000; decide)) (by rw [sgn_at hi]))) (by rw [Dl.kept_all]; rfl)) s10.i fun vm F11 H11 s11 t11 => ?_
        have st := (((s7.trans s8).trans s9).trans s10).trans s11
        have tR := tR.mono st.f
        have tI := tI.mono st.f
        have lc : ∀ lo hi, (Dl.cutD (its.map encI) lo hi).length ≤ 24 := fun lo hi => Nat.le_trans Dl.cutD_len (by omega)
        have lc1 : (Dl.cutD (its.map encI) none (some 1)).length ≤ 1 := by
          unfold Dl.cutD
          rw [List.length_take]
          show min (min 1 _ - 0) _ ≤ 1
          omega
        have cI : ∀ lo hi, ∀ d ∈ Dl.cutD (its.map encI) lo hi, Dl.nice d [6, 12, 6] = true := fun lo hi d hd => nI d (Dl.cutD_mem hd)
        have app : ∀ {a b : List PyData}, (∀ d ∈ a, Dl.nice d [6, 12, 6] = true) → (∀ d ∈ b, Dl.nice d [6, 12, 6] = true) → ∀ d ∈ a ++ b, Dl.nice d [6, 12, 6] = true := fun {a b} h1 h2 d hd => by
          rcases List.mem_append.mp hd with z | z
          · exact h1 d z
          · exact h2 d z
        have c3 := lc (some 1) none
        have w1 := (row (its.map encI).reverse (by rw [List.length_reverse]; omega) (fun d hd => nI d (List.mem_reverse.mp hd))).2
        have w2 := (row [] (by decide) (fun d hd => by cases hd)).2
        have w3 := (row many25 (by decide) nice_many).2
        have w4 := (row (Dl.cutD many25 none (some 24)) (Nat.le_trans Dl.cutD_len (by decide)) (fun d hd => nice_many d (Dl.cutD_mem hd))).2
        have w5 := (row (its.map encI ++ Dl.cutD (its.map encI) none (some 1)) (by rw [List.length_append]; omega) (app nI (cI _ _))).2
        have w6 := (row (Dl.cutD (its.map encI) (some 1) none ++ Dl.cutD (its.map encI) none (some 1)) (by rw [List.length_append]; omega) (app (cI _ _) (cI _ _))).2
        refine Dl.q_asg (F := F11) (Dl.lst (ds := [PyData.list (its.map encI).reverse, .list [], .list many25, .list (Dl.cutD many25 none (some 24)), .list (its.map encI ++ Dl.cutD (its.map encI) none (some 1)), .list (Dl.cutD (its.map encI) (some 1) none ++ Dl.cutD (its.map encI) none (some 1))]) (Dl.cons (Dl.revL (Dl.var rfl tI)) (Dl.cons (Dl.lst Dl.nil (by show 0 ≤ 100000; decide)) (Dl.cons (Dl.var rfl t11) (Dl.cons (Dl.slL (Dl.var rfl t11) Dl.noPart (Dl.part Dl.int)) (Dl.cons (Dl.op (Dl.var rfl tI) (Dl.slL (Dl.var rfl tI) Dl.noPart (Dl.part Dl.int)) (Dl.cat (by omega))) (Dl.cons (Dl.op (Dl.slL (Dl.var rfl tI) (Dl.part Dl.int) Dl.noPart) (Dl.slL (Dl.var rfl tI) Dl.noPart (Dl.part Dl.int)) (Dl.cat (by omega))) Dl.nil)))))) (by show 6 ≤ 100000; decide)) s11.i fun vo F12 H12 s12 t12 => ?_
        have g1 : Dl.niceAll [PyData.list (its.map encI).reverse, .list [], .list many25, .list (Dl.cutD many25 none (some 24)), .list (its.map encI ++ Dl.cutD (its.map encI) none (some 1)), .list (Dl.cutD (its.map encI) (some 1) none ++ Dl.cutD (its.map encI) none (some 1))] [26, 6, 12, 6] = true := by
          simp only [Dl.niceAll_cons, Dl.niceAll_nil, w1, w2, w3, w4, w5, w6, Bool.and_true]
        obtain ⟨L1, e1⟩ : ∃ L, L = [PyData.list (its.map encI).reverse, .list [], .list many25, .list (Dl.cutD many25 none (some 24)), .list (its.map encI ++ Dl.cutD (its.map encI) none (some 1)), .list (Dl.cutD (its.map encI) (some 1) none ++ Dl.cutD (its.map encI) none (some 1))] := ⟨_, rfl⟩
        rw [← e1] at g1 t12
        have n1 : L1.length = 6 := by
          rw [e1]
          rfl
        clear e1
        have st2 := st.trans s12
        refine Gn.s_ret (n := 1) (P := fun d => Dl.nice d [3, 26, 6, 12, 6] = true) (Gn.EvG.weak (Gn.tup (Gn.cons (Gn.pure (Dl.var rfl (tR.mono s12.f))) (Gn.cons (Gn.pick (S := S) (i := 0) (P := (· = .list L1)) rfl (Gn.pure (Dl.var rfl t12)) (fun d e => ⟨_, e, by omega, by omega⟩)) Gn.nil)) (fun ds h => by
          obtain ⟨d, es, rfl, _, d2, es2, rfl, _, rfl⟩ := h
          show 2 ≤ 100000
          decide)) (by decide) (fun d h => by
          obtain ⟨ds, rfl, d1, es, rfl, rfl, d2, es2, rfl, ⟨ds2, e, hd⟩, rfl⟩ := h
          have e' := PyData.list.inj e
          subst e'
          exact nice_pair wR.1 (Dl.niceAll_iff.mp g1 d2 hd))) (aF.step st2) (by omega) fun y d F13 H13 t13 s13 a13 l13 ty hy => ?_
        exact q y d F13 H13 t13 ((sF.trans (.of st2)).trans s13) a13 (by omega) ty hy
      by_cases v3 : v = 3
      · subst v3
        refine Dl.q_when (F := F6) (c := decide ((3 : Int) = 0)) (Dl.eqI rfl) aF.i (fun hc => absurd (of_decide_eq_true hc) (by omega)) (fun _ F7 H7 s7 => ?_)
        refine Dl.q_when (F := F7) (c := decide ((3 : Int) = 1)) (Dl.eqI rfl) s7.i (fun hc => absurd (of_decide_eq_true hc) (by omega)) (fun _ F8 H8 s8 => ?_)
        refine Dl.q_when (F := F8) (c := decide ((3 : Int) = 2)) (Dl.eqI rfl) s8.i (fun hc => absurd (of_decide_eq_true hc) (by omega)) (fun _ F9 H9 s9 => ?_)
        refine Dl.q_when (F := F9) (c := decide ((3 : Int) = 3)) (Dl.eqI rfl) s9.i (fun _ F10 H10 s10 => ?_) (fun hc => absurd rfl (of_decide_eq_false hc))
        refine Dl.q_asg (F := F10) (Dl.is_ (d := .list (ext6.map encI)) (Dl.lcS (z := "abcdef") (fun _ => true) (fun i => encI ⟨("o" : Str) ++ sgn "abcdef" i, ("kk" : Str) ++ sgn "abcdef" i, []⟩) Dl.str (by decide +kernel) (fun _ => rfl) (fun _ _ _ _ _ => Dl.tyes) (fun i c G eg hi _ => Dl.is_ (Dl.tup (Dl.cons (Dl.op Dl.str (Dl.var rfl (.str _)) (Dl.strCat (by rw [sizeLine_eq]; exact (by decide : 2 ≤ 16777216)))) (Dl.cons (Dl.op Dl.str (Dl.var rfl (.str _)) (Dl.strCat (by rw [sizeLine_eq]; exact (by decide : 3 ≤ 16777216)))) (Dl.cons (Dl.tup Dl.nil (by show 0 ≤ 100000; decide)) Dl.nil))) (by show 3 ≤ 100000; decide)) (by rw [sgn_at hi]; rfl))) (by rw [Dl.kept_all, List.map_map]; rfl)) s10.i fun vm F11 H11 s11 t11 => ?_
        have st := (((s7.trans s8).trans s9).trans s10).trans s11
        have tR := tR.mono st.f
        have tI := tI.mono st.f
        have cutI : ∀ (js : List Itm) (lo hi : Option Int), ∃ ks : List Itm, Dl.cutD (js.map encI) lo hi = ks.map encI ∧ ∀ k ∈ ks, k ∈ js := fun js lo hi => its_ex (its := js) (ds := Dl.cutD (js.map encI) lo hi) fun d hd => Dl.cutD_mem hd
        obtain ⟨ks, eks, hks⟩ := cutI its none (some 17)
        have lks : ks.length ≤ 17 := by
          have z : (Dl.cutD (its.map encI) none (some 17)).length ≤ 17 := by
            unfold Dl.cutD
            rw [List.length_take]
            show min (min 17 _ - 0) _ ≤ 17
            omega
          rw [eks, List.length_map] at z
          exact z
        refine Gn.s_ret (n := 1) (P := fun d => Dl.nice d [3, 26, 6, 12, 6] = true) (Gn.EvG.weak (Gn.tup (Gn.cons (Gn.pure (Dl.var rfl tR)) (Gn.cons (Gn.call (P := fun d => Dl.nice d [26, 6, 12, 6] = true) (Gn.cons (Gn.op (P3 := fun d => ∃ js : List Itm, d = .list (js.map encI) ∧ js.length ≤ 26 ∧ ∀ j ∈ js, Dl.nice (encI j) [6, 12, 6] = true) (Gn.pure (Dl.slL (Dl.var rfl tI) Dl.noPart (Dl.part Dl.int))) (Gn.slLd (Dl.var rfl t11) (Gn.op (P3 := fun d => ∃ i : Int, d = .int i) (Gn.pure Dl.int) (Gn.drawM (S := S) (i := 0) (M := 6) rfl (Gn.pure Dl.int) (by decide) (by decide)) (fun d1 d2 h1 h2 => by
            obtain ⟨j, rfl, _⟩ := h2
            subst h1
            exact ⟨_, ⟨_, rfl⟩, Dl.rI0i⟩)) (fun d h => h)) (fun d1 d2 h1 h2 => by
            obtain ⟨i, _, rfl⟩ := h2
            subst h1
            obtain ⟨js, ejs, hjs⟩ := cutI ext6 none (some i)
            have ljs : js.length ≤ 6 := by
              have z : (Dl.cutD (ext6.map encI) none (some i)).length ≤ _ := Dl.cutD_len
              rw [ejs, List.length_map] at z
              exact Nat.le_trans z (by decide)
            rw [eks, ejs]
            refine ⟨.list (ks.map encI ++ js.map encI), ⟨ks ++ js, by rw [List.map_append], by rw [List.length_append]; omega, fun j hj => ?_⟩, Dl.cat (by rw [List.length_map, List.length_map]; omega)⟩
            rcases List.mem_append.mp hj with z | z
            · exact nI _ (List.mem_map.mpr ⟨j, hks j z, rfl⟩)
            · exact nice_ext _ (List.mem_map.mpr ⟨j, hjs j z, rfl⟩))) Gn.nil) (fun ds h => by
            obtain ⟨d, es, rfl, ⟨js, rfl, lj, hj⟩, rfl⟩ := h
            have al := alike_its (ds := js.map encI) rfl
            have pm := List.mergeSort_perm (js.map encI) (PySem.W.dataLe false id)
            refine ⟨_, (row _ (by rw [pm.length_eq, List.length_map]; exact lj) fun d hd => ?_).2, Dl.sorted al.1 al.2 (by rw [List.length_map]; omega) fun d hd => ?_⟩
            · obtain ⟨j, hjm, rfl⟩ := List.mem_map.mp (pm.mem_iff.mp hd)
              exact hj j hjm
            · obtain ⟨a, _, rfl⟩ := List.mem_map.mp hd
              have z := depth_encI a
              omega)) Gn.nil)) (fun ds h => by
          obtain ⟨d, es, rfl, _, d2, es2, rfl, _, rfl⟩ := h
          show 2 ≤ 100000
          decide)) (by decide) (fun d h => by
          obtain ⟨ds, rfl, d1, es, rfl, rfl, d2, es2, rfl, hd, rfl⟩ := h
          exact nice_pair wR.1 hd)) (aF.step st) (by omega) fun y d F13 H13 t13 s13 a13 l13 ty hy => ?_
        exact q y d F13 H13 t13 ((sF.trans (.of st)).trans s13) a13 (by omega) ty hy
      · have v56 : v = 5 ∨ v = 6 := by omega
        refine Dl.q_when (F := F6) (c := decide (((v : Nat) : Int) = 0)) (Dl.eqI rfl) aF.i (fun hc => absurd (of_decide_eq_true hc) (by omega)) (fun _ F7 H7 s7 => ?_)
        refine Dl.q_when (F := F7) (c := decide (((v : Nat) : Int) = 1)) (Dl.eqI rfl) s7.i (fun hc => absurd (of_decide_eq_true hc) (by omega)) (fun _ F8 H8 s8 => ?_)
        refine Dl.q_when (F := F8) (c := decide (((v : Nat) : Int) = 2)) (Dl.eqI rfl) s8.i (fun hc => absurd (of_decide_eq_true hc) (by omega)) (fun _ F9 H9 s9 => ?_)
        refine Dl.q_when (F := F9) (c := decide (((v : Nat) : Int) = 3)) (Dl.eqI rfl) s9.i (fun hc => absurd (of_decide_eq_true hc) (by omega)) (fun _ F10 H10 s10 => ?_)
        refine Dl.q_when (F := F10) (c := decide (((v : Nat) : Int) = 4)) (Dl.eqI rfl) s10.i (fun hc => absurd (of_decide_eq_true hc) (by omega)) (fun _ F11 H11 s11 => ?_)
        have st := (((s7.trans s8).trans s9).trans s10).trans s11
        refine Dl.s_ret (F := F11) (Dl.tup (Dl.cons (Dl.var rfl (tR.mono st.f)) (Dl.cons (Dl.var rfl (tC.mono st.f)) Dl.nil)) (by show 2 ≤ 100000; decide)) s11.i fun y F14 H14 s14 t14 => ?_
        exact q y _ F14 H14 t5 (sF.trans (.of (st.trans s14))) (aF.step (st.trans s14)) (by omega) t14 (nice_pair wR.1 wC.2)
end
end Lw
set_option Elab.async false
set_option linter.all false
set_option maxRecDepth 100000
set_option maxHeartbeats 4000000
/-! repr of data of bounded width, in a body under which no repr is under way -/
namespace Dl
open PySem PySem.Spec PyProof.Rows L2
section
variable {P : Program} {w : World} {F H : Hp} {h : Heap}
mutual
theorem Tl.reads (ok : HOk P w H h) (e : Ex F H) : ∀ {x : V} {d : D} {u : Value}, Tl F x d → RelV x u → ∃ as, Reads h u d as
  | _, _, u, .non, r => by
    obtain rfl : u = Value.none := r
    exact ⟨_, .none⟩
  | _, _, u, .bl b, r => by
    obtain rfl : u = Value.bool b := r
    exact ⟨_, .bool b⟩
  | _, _, u, .int i, r => by
    obtain ⟨t, rfl⟩ : ∃ t, u = Value.int i t := r
    exact ⟨_, .int i t⟩
  | _, _, u, .str x, r => by
    obtain ⟨t, rfl⟩ : ∃ t, u = Value.str x t := r
    exact ⟨_, .str x t⟩
  | _, _, u, .lst (a := a) ha hs, r => by
    obtain rfl : u = Value.ref a := r
    obtain ⟨z, its, n, rv, g⟩ := ok _ _ (e _ _ ha)
    obtain ⟨as, rs⟩ := TlAll.reads ok e hs rv
    exact ⟨_, .list g rfl rfl rs⟩
  | _, _, u, .tup (a := a) ha hs, r => by
    obtain rfl : u = Value.ref a := r
    obtain ⟨z, its, rv, o, g, c, n, dd⟩ := ok _ _ (e _ _ ha)
    obtain ⟨as, rs⟩ := TlAll.reads ok e hs rv
    exact ⟨_, .tuple g c dd rs⟩
theorem TlAll.reads (ok : HOk P w H h) (e : Ex F H) : ∀ {xs : List V} {ds : List D} {us : List Value}, TlAll F xs ds → Vals xs us → ∃ as, ReadsAll h us ds as
  | _, _, _, .nil, .nil => ⟨_, .nil⟩
  | _, _, _, .cons t ts, .cons r rs => by
    obtain ⟨as, h1⟩ := Tl.reads ok e t r
    obtain ⟨bs, h2⟩ := TlAll.reads ok e ts rs
    exact ⟨_, .cons h1 h2⟩
end
end
/-- what repr asks of a value -/
structure Rp (d : D) : Prop where
  sh : d.showable = true
  nd : d.hasDict = false
  dp : d.depth ≤ 60
  sz : d.shown.length ≤ sizeLine
theorem rp_of {d : D} {ms : List Nat} (h : nice d ms = true) (n : narrow ms = true) (l : ms.length ≤ 60) (hw : wsum ms ≤ 1048576) : Rp d := by
  obtain ⟨f1, f2, f3, f4, f5⟩ := nice_facts h n
  have c := fit_lay f1
  refine ⟨f4, PyData.hasDict_of_canLay d c, Nat.le_trans f2 l, ?_⟩
  have lay : PyData.layable0 d = true := by
    unfold PyData.layable0
    have e : (2 : Nat) ^ 20 = 1048576 := by decide
    have wb : d.weight ≤ 2 ^ 20 := by omega
    have db : d.depth ≤ 64 := by omega
    rw [c, decide_eq_true wb, decide_eq_true db]
    rfl
  have z := PyData.shown_le_of_layable0 lay f3
  exact Nat.le_trans z (by decide +kernel)
def rRepr : List V → Hp → VK → Prop := fun xs H Q => ∃ (x : V) (d : D) (F : Hp), xs = [x] ∧ Ex F H ∧ Tl F x d ∧ Rp d ∧ Q (.str d.shown) H
theorem call_repr {X : Cx} (hg : X.A.guards = some []) (hu : X.A.units + 100 < cLine) : CallR X (.builtin "repr") rRepr := by
  intro pins s σ H xs us Q I r h
  obtain ⟨x, d, F, rfl, e, t, ⟨h1, h2, h3, h4⟩, q⟩ := h
  obtain ⟨u, rfl, ru⟩ := vals1 r
  obtain ⟨as, rd⟩ := Tl.reads I.hok e t ru
  cases rd with
  | none => exact PySem.P.repr_of_none ⟨.str _, H, I.tok _, ⟨_, rfl⟩, q⟩
  | bool b => exact PySem.P.repr_of_bool ⟨.str _, H, I.tok _, ⟨_, rfl⟩, by
      have q' := q
      cases b <;> exact q'⟩
  | int i tk => exact PySem.P.repr_of_int (of_decide_eq_true h1) ⟨.str _, H, I.tok _, ⟨_, rfl⟩, q⟩
  | str y tk => exact PySem.P.repr_of_str (hsz := h4) ⟨.str _, H, I.tok _, ⟨_, rfl⟩, q⟩
  | list g1 g2 g3 g4 => exact repr_of_reads' (.list g1 g2 g3 g4) h1 (PyData.noDict_hsm h2) hg (by omega) (fun _ _ z => z) (fun h' u tk hk => ⟨.str _, H, I.kept hk, ⟨_, rfl⟩, q⟩) h4
  | tuple g1 g2 g3 g4 => exact repr_of_reads' (.tuple g1 g2 g3 g4) h1 (PyData.noDict_hsm h2) hg (by omega) (fun _ _ z => z) (fun h' u tk hk => ⟨.str _, H, I.kept hk, ⟨_, rfl⟩, q⟩) h4
  | dict g1 g2 g3 g4 g5 => cases h2
theorem rpr {σ : L2.St} {F : Hp} {te : TE} {d : D} (h : Ev te σ F d) (hd : Rp d) : Ev (tCB rRepr (tCons te tNil)) σ F (.str d.shown) := fun F1 H1 a i Q q =>
  h F1 H1 a i _ fun x F2 H2 s hx => ⟨x, d, F2, rfl, s.i, hx, hd, q _ F2 H2 s (.str _)⟩
end Dl
set_option Elab.async false
set_option linter.all false
set_option maxRecDepth 100000
set_option maxHeartbeats 4000000
/-! a law whose body needs to know that no repr is under way: the call at the top alone is looked at -/
namespace HeadG
open PySem PySem.Spec PyProof.Rows L2
/-- at the top: the law's answer from a base and what is tracked -/
def TopRun (P : Program) (w : World) (K : PySem.W.Frag) (mg : Str → Option Value) (fa a : Addr) (ns : List Int) : Prop :=
  ∀ (base : Heap) (H : Hp) (s : Shared), K.In base → base.Ns mainGlobals mg → Env0 P w K mg base callerA [] s H → SqL K H a (ns.map V.int) →
    codeAny (model P w) callerA (.call (.ref fa) ⟨[.ref a], []⟩) (CR CX0 [] P w H s (fun v _ => v = .bl true) fun _ _ _ => False) s
theorem done {P : Program} {w : World} {H : Hp} {s s' : Shared} {r : Result} (h : CR CX0 [] P w H s (fun v _ => v = .bl true) (fun _ _ _ => False) r s')
    (hH : ∀ b o, s.heap.get? b = some o → H b = none ∨ ∃ xs, H b = some (.frz o (.lst xs))) : r = .ok (.ret (.bool true)) ∧ OldK s.heap s'.heap ∧ s'.os = s.os ∧ AllBare s'.gens := by
  match r, h with
  | .ok (.ret u), h =>
    obtain ⟨v, H2, os, bare, un, ok2, rv, hv⟩ := h
    cases hv
    obtain rfl : u = Value.bool true := rv
    refine ⟨rfl, OldK.of_keep fun b o g => ?_, os, bare⟩
    rcases hH b o g with n | ⟨xs, f⟩
    · exact un.keep b o g n (fun z => by cases z) (fun z => by cases z)
    · exact (ok2 b _ (un.frzs b o _ f)).1
  | .ok .next, h => exact h.elim
  | .ok .brk, h => exact h.elim
  | .ok .cont, h => exact h.elim
  | .error e, h => exact h.elim
theorem enter {P : Program} {w : World} {K : PySem.W.Frag} {mg mb : Str → Option Value} {fa a : Addr} {s : Shared} {vs : List Value} {ns : List Int} (kin : K.In s.heap) (g : s.heap.Ns mainGlobals mg) (b : s.heap.Ns builtinsNs mb)
    (hb : ∀ x : Str, x ≠ "__name__" → mb x = bootBuiltins x) (lim : s.heap.NoLimit) (gens : s.gens = #[]) (ha : s.heap.get? a = some { cls := .type "list", data := .seq vs.toArray }) (hi : IntsAre vs ns) (hl : ns.length ≤ sizeLine) (T : TopRun P w K mg fa a ns) :
    codeAny (model P w) callerA (.call (.ref fa) ⟨[.ref a], []⟩) (fun r s' => r = .ok (.ret (.bool true)) ∧ OldK s.heap s'.heap ∧ s'.os = s.os ∧ AllBare s'.gens) s := by
  have rv := vals_ints hi
  have nofr : ∀ c ∈ frs ([] : List Env), ∀ H : Hp, H c = none := fun c hc => by cases hc
  by_cases hk : ∃ o, K.lookup a = some o
  · obtain ⟨o, hk⟩ := hk
    have e := kin a o hk
    rw [ha] at e
    cases e
    refine codeAny_mono (T s.heap (fun _ => none) s kin g ⟨rfl, ⟨kin, g, ⟨mb, b, hb⟩, lim⟩, fun c o z => ⟨z, rfl⟩, Nat.le_refl _, trivial, fun c hc => rfl, fun c u z => (by cases z), .of_eq gens⟩ ?_) fun r s' h => done h fun c o z => .inl rfl
    refine .inr ⟨_, vs.toArray, _, hk, rfl, rfl, rfl, ?_, by simpa using rv⟩
    rw [List.size_toArray, hi.length]
    exact hl
  · have nk : ∀ c o, K.lookup c = some o → c ≠ a := fun c o z q => hk ⟨o, q ▸ z⟩
    let H : Hp := upd (fun _ => none) a (.frz { cls := .type "list", data := .seq vs.toArray } (.lst (ns.map V.int)))
    have Ha : H a = some (.frz { cls := .type "list", data := .seq vs.toArray } (.lst (ns.map V.int))) := upd_same
    have Hn : ∀ {c : Addr}, c ≠ a → H c = none := fun z => upd_ne z
    have ok : HOk P w H s.heap := fun c u z => by
      by_cases e : c = a
      · subst e
        rw [Ha] at z
        cases z
        exact ⟨ha, by rw [List.length_map]; exact hl, vs, _, rv, ha⟩
      · rw [Hn e] at z
        cases z
    have kns : ∀ {c : Addr} {m : Str → Option Value}, s.heap.Ns c m → (hidT s.heap H).Ns c m := fun {c m} ⟨o, es, ep, z, dd, rr⟩ => ⟨o, es, ep, hidT_get z (Hn fun q => by
      subst q
      rw [ha] at z
      cases z
      cases dd), dd, rr⟩
    have kinB : K.In (hidT s.heap H) := fun c o z => hidT_get (kin c o z) (Hn (nk c o z))
    obtain ⟨ml, l1, l2⟩ := lim
    refine codeAny_mono (T (hidT s.heap H) H s kinB (kns g) ⟨rfl, ⟨kinB, kns g, ⟨mb, kns b, hb⟩, ⟨ml, kns l1, l2⟩⟩, fun c o z => of_hidT z, Nat.le_of_eq (hidT_size _ _), trivial, fun c hc => (by cases hc), ok, .of_eq gens⟩ (.inl (.inr ⟨_, Ha⟩))) fun r s' h => done h fun c o z => ?_
    by_cases e : c = a
    · subst e
      rw [ha] at z
      cases z
      exact .inr ⟨_, Ha⟩
    · exact .inl (Hn e)
/-- the goal that k_head leaves -/
theorem walkG {l : PySem.W.OpenLaw} {n : Nat} {q : Program} {loose : List Str} {XP : (Str → Option Value) → Heap → Prop} {YP : World → Heap → Prop} {d : DefRec} {K : Params → PySem.W.Frag} (hn : l.most = some n) (hn2 : n ≤ sizeLine) (hdf : d.params.defaults = [])
    (hY : ∀ (w : World) (h : Heap), YP w h → (K w.params).In h)
    (F : ∀ (w : World) (mg : Str → Option Value) (fa : Addr) (h : Heap), (K w.params).In h → h.Ns mainGlobals mg → mg d.name = some (.ref fa) → ∀ (a : Addr) (ns : List Int), ns.length ≤ n → TopRun l.prog w (K w.params) mg fa a ns) :
    PySem.W.WalkO q loose XP YP l.row.toRowW d [] (fun f vs => PySem.call f vs) :=
  Att.attach_call hn hdf fun w s₀ s₁ mg mb fa o pm cd doc a vs ns G Y ho hd hcd hmg hobj hints hlen hg =>
    enter (hY w _ Y) G.T.g G.T.b G.T.builtins G.T.nolimit hg hobj hints (Nat.le_trans hlen hn2) (F w mg fa _ (hY w _ Y) G.T.g hmg a ns hlen)
/-- the law's def by its body: no repr is under way -/
theorem top_of {P : Program} {w : World} {K : PySem.W.Frag} {mg : Str → Option Value} {x qual : Str} {st : Stmt} {fa a : Addr} {ns : List Int} {fd : FuncData} {N : List Str} {y : Str} {k : Nat} (F : Fun K x qual st fa fd) (S : FnScope N [y] (defScope st))
    (hb : ∀ (s : Shared) (u : Value), BindsTo s fd ⟨[u], []⟩ [(y, u)]) (hr : Room (k + 1) callerA)
    (body : ∀ (base : Heap) (H : Hp) (s : Shared) (cdv : Value), K.In base → base.Ns mainGlobals mg → SqL K H a (ns.map V.int) → Room k (callerA.deeper (envOfC qual (defScope st) s.heap.objs.size fa cdv)) → (callerA.deeper (envOfC qual (defScope st) s.heap.objs.size fa cdv)).guards = some [] →
      ∃ t, PSs (cxOf CX0 P w K mg base N qual (defScope st) fa cdv callerA [] s H fun _ _ _ => False).nox (defBody st) t ∧ t { nx := fun _ _ => False, rt := fun v _ => v = .bl true } (start N [.ref a]) H) : TopRun P w K mg fa a ns := by
  intro base H s kb nb e0 sq
  obtain ⟨oc, od, kV, doc, pm, an, cdv, ct, osl, rfl, lk, hcd⟩ := F.ex
  have kin : K.In s.heap := e0.mod.kin.keeps fun c o z => (e0.bs c o z).1
  have lim : s.heap.NoLimit := e0.mod.nolimit.keeps fun c o z => (e0.bs c o z).1
  have rv : Vals [V.ref a] [Value.ref a] := .cons rfl .nil
  have par : ∀ z ∈ [y].zip [Value.ref a], (defScope st).names.lookup z.1 = some .local ∨ ((defScope st).names.lookup z.1 = some .cell ∧ ((cellsFrom (s.heap.objs.size + 1) (defScope st).names []).lookup z.1).isSome = true) := fun ⟨m, v⟩ hm => by
    rcases S.par m (List.of_mem_zip hm).1 with z | z
    · exact .inl z
    · exact .inr ⟨z, PySem.W.cellsFrom_some _ _ _ (.inl z)⟩
  refine codeAny_call_function hr.depth (kin _ _ lk) rfl S.co S.gen rfl (PySem.W.codeRec_of kin hcd) (hb s _ _ _ _ _ ?_)
  refine wpAny_newFunctionEnv_cells S.kind par fun env he s1 fr => ?_
  subst he
  refine ⟨lim.keeps fr.toInCall.keep, codeAny_func ?_⟩
  obtain ⟨t, ht, run⟩ := body base H s cdv kb nb sq (hr.deeper _) rfl
  have I := inv_start (CX := CX0) (E := fun _ _ _ => False) S hr.hd e0 rfl rv fr
  refine wpAny_mono (ht.nox.run [] s1 (start N [.ref a]) H _ I run) (fun fl s' got => ?_) fun e s' got => got
  match fl, got with
  | .ret u, got =>
    obtain ⟨v, σ', H', J, r, z⟩ := got
    exact ⟨v, H', J.os, J.bare, J.base, J.hok, r, z⟩
  | .next, got =>
    obtain ⟨σ', H', J, z⟩ := got
    exact z.elim
  | .brk, got =>
    obtain ⟨_, _, _, z⟩ := got
    exact z.elim
  | .cont, got =>
    obtain ⟨_, _, _, z⟩ := got
    exact z.elim
end HeadG
set_option Elab.async false
set_option linter.all false
set_option maxRecDepth 100000
set_option maxHeartbeats 4000000
namespace Dl
open PySem PySem.Spec PyProof.Rows L2
theorem neSt {x : Str} : RV rNe (.str x) (.str x) (.bool false) := fun F1 H1 e a b ha hb Q q => by
  cases ha
  cases hb
  refine ⟨rfl, ?_⟩
  rw [decide_eq_true rfl]
  exact q _ F1 H1 (.refl e) (.bl _)
end Dl
namespace Lw
open PySem PySem.Spec PyProof.Rows L2 ExV
/-- what the answer of inventory_error looks like -/
theorem errD_form (d : PyData) : errD d = .none ∨ (∃ z : Str, errD d = .tuple [.str z] ∧ PyData.strOk z = true) ∨ ∃ i : Int, errD d = .tuple [.str "item", .int i] := by
  have bad : ∀ l : List PyData, Dl.isNon (badD l) = false → ∃ i : Int, badD l = .int i := fun l h => by
    unfold badD at h ⊢
    split at h
    · exact ⟨_, rfl⟩
    · cases h
  unfold errD
  split
  · split
    · exact .inr (.inl ⟨_, rfl, by decide +kernel⟩)
    · split
      · exact .inr (.inl ⟨_, rfl, by decide +kernel⟩)
      · split
        · rename_i h
          obtain ⟨i, e⟩ := bad _ h
          exact .inr (.inr ⟨i, by rw [e]⟩)
        · unfold lastD
          split
          · exact .inr (.inl ⟨_, rfl, by decide +kernel⟩)
          · exact .inl rfl
  · exact .inr (.inl ⟨_, rfl, by decide +kernel⟩)
theorem errD_lay (d : PyData) : (errD d).canLay0 = true ∧ (errD d).depth ≤ 1 := by
  rcases errD_form d with e | ⟨z, e, h⟩ | ⟨i, e⟩
  · rw [e]
    decide +kernel
  · rw [e]
    simp [PyData.canLay0, PyData.canLayAll0, PyData.depth, PyData.depthAll, h]
  · rw [e]
    refine ⟨?_, ?_⟩
    · simp [PyData.canLay0, PyData.canLayAll0]
      decide +kernel
    · simp [PyData.depth, PyData.depthAll]
theorem shaped_of {d : PyData} (h : d.canLay0 = true) (n : d.depth ≤ 32) : SeqAt.shaped d = true := by
  unfold SeqAt.shaped
  rw [h, Bool.true_and]
  exact decide_eq_true (by omega)
theorem err_good (d : PyData) : SeqAt.shaped (errD d) = true ∧ PyData.eqv (errD d) (errD d) = true := by
  obtain ⟨h, n⟩ := errD_lay d
  exact ⟨shaped_of h (by omega), PySem.SeqAt.eqv_refl _ h⟩
theorem err_good3 (d : PyData) : SeqAt.shaped (.list [errD d, errD d, errD d]) = true ∧ PyData.eqv (.list [errD d, errD d, errD d]) (.list [errD d, errD d, errD d]) = true := by
  obtain ⟨h, n⟩ := errD_lay d
  have h3 : PyData.canLay0 (.list [errD d, errD d, errD d]) = true := by
    simp [PyData.canLay0, PyData.canLayAll0, h]
  refine ⟨shaped_of h3 ?_, PySem.SeqAt.eqv_refl _ h3⟩
  simp only [PyData.depth, PyData.depthAll]
  omega
theorem inv_nice {roots : List Str} {its : List Itm} (iok : InvOk roots its) : Dl.nice (.tuple [.tuple (roots.map .str), .list (its.map encI)]) [3, 26, 6, 12, 6] = true := by
  have n24 := iok.n24
  have r4 := iok.r4
  refine nice_pair (Dl.nice_row (by rw [List.length_map]; omega) (nice_strs (n := 0) fun z hz => nice_kinds z (iok.rk z hz))).2.2 (Dl.nice_row (by rw [List.length_map]; omega) fun d hd => ?_).2.1
  obtain ⟨it, hit, rfl⟩ := List.mem_map.mp hd
  exact (iok.itm it hit).nice
/-- a value that the law looks at -/
abbrev Val (d : PyData) : Prop := Dl.nice d [3, 26, 6, 12, 6] = true
theorem Val.fit {d : PyData} (h : Val d) : Dl.fit d = true := (Dl.nice_facts h (by decide)).1
theorem Val.flat {d : PyData} (h : Val d) : okFlat d := by
  obtain ⟨h1, h2, _⟩ := Dl.nice_facts h (by decide)
  refine ⟨h1, Nat.le_trans h2 ?_⟩
  show 5 ≤ 50
  decide
theorem Val.rp {d : PyData} (h : Val d) : Dl.Rp d := Dl.rp_of h (by decide) (by show 5 ≤ 60; decide) (by decide +kernel)
theorem ExpE {σ : L2.St} {F : Hp} {x : V} (d : PyData) (h : σ[4]? = some (some x)) (t : Dl.Tl F x d) (k : okFlat d) : Dl.Ev (tCall spExp [] E0 (tCons (tVar 4) tNil)) σ F (errD d) :=
  Dl.callF (ok := fun ds => ∃ d, ds = [d] ∧ okFlat d) (g := fun ds => errD (ds.getD 0 .none)) (ds := [d]) (Dl.cons (Dl.var h t) Dl.nil) ⟨d, rfl, k⟩
theorem ErrE {σ : L2.St} {F : Hp} {x : V} (d : PyData) (h : σ[4]? = some (some x)) (t : Dl.Tl F x d) (k : Dl.fit d = true) : Dl.Ev (tCall spErr [] E0 (tCons (tVar 4) tNil)) σ F (errD d) :=
  Dl.callF (ok := fun ds => ∃ d, ds = [d] ∧ Dl.fit d = true) (g := fun ds => errD (ds.getD 0 .none)) (ds := [d]) (Dl.cons (Dl.var h t) Dl.nil) ⟨d, rfl, k⟩
theorem RaiE {σ : L2.St} {F : Hp} {x : V} {n : Nat} (d : PyData) (hn : σ[8]? = some (some (.int (n : Int)))) (h : σ[4]? = some (some x)) (t : Dl.Tl F x d) (n3 : n < 3) (k : Dl.fit d = true) : Dl.Ev (tCall spRai [] E0 (tCons (tVar 8) (tCons (tVar 4) tNil))) σ F (errD d) :=
  Dl.callF (ok := fun ds => ∃ (n : Nat) (d : PyData), ds = [.int (n : Int), d] ∧ n < 3 ∧ Dl.fit d = true) (g := fun ds => errD (ds.getD 1 .none)) (ds := [.int (n : Int), d]) (Dl.cons (Dl.var hn (.int _)) (Dl.cons (Dl.var h t) Dl.nil)) ⟨n, d, rfl, n3, k⟩
abbrev sLw : Stmt := topS 38
abbrev nLw : List Str := ["_law_script", "_law_source_here", "_law_repeat", "_law_inventory_here", "_law_value", "_law_before", "_law_expected_here", "_law_k", "_law_which"]
theorem scLw : FnScope nLw ["_law_script"] (defScope sLw) := ⟨rfl, rfl, rfl, by decide +kernel, rfl, by decide +kernel, by decide +kernel⟩
section
variable {P : Program} {w : World} {K : PySem.W.Frag} {mg : Str → Option Value}
theorem top_law {fa fA fI fM fE fR fX a : Addr} {fd fdA fdI fdM fdE fdR fdX : FuncData} {ns : List Int} (F : Fun K "law" "law" sLw fa fd) (hb : ∀ (s : Shared) (u : Value), BindsTo s fd ⟨[u], []⟩ [("_law_script", u)]) (hlen : ns.length ≤ 63)
    (FA : Fun K "_law_source" "_law_source" sSource fA fdA) (bA : Binds K fdA ["_law_script"] []) (gA : mg "_law_source" = some (.ref fA)) (GA : ∀ base : Heap, K.In base → base.Ns mainGlobals mg → FnOk P w K mg base CX0 1 fA fdA ["_law_script"] (spSource K))
    (FI : Fun K "_law_inventory" "_law_inventory" sInv fI fdI) (bI : Binds K fdI ["_law_source_here", "_law_limit"] []) (gI : mg "_law_inventory" = some (.ref fI)) (GI : ∀ base : Heap, K.In base → base.Ns mainGlobals mg → FnOk P w K mg base CX0 4 fI fdI ["_law_source_here", "_law_limit"] spInv)
    (FM : Fun K "_law_mutated" "_law_mutated" sMut fM fdM) (bM : Binds K fdM ["_law_source_here", "_law_inventory_here"] []) (gM : mg "_law_mutated" = some (.ref fM)) (GM : ∀ base : Heap, K.In base → base.Ns mainGlobals mg → FnOk P w K mg base CX0 4 fM fdM ["_law_source_here", "_law_inventory_here"] spMut)
    (FE : Fun K "_law_expected" "_law_expected" sExp fE fdE) (bE : Binds K fdE ["_law_value"] []) (gE : mg "_law_expected" = some (.ref fE)) (GE : ∀ base : Heap, K.In base → base.Ns mainGlobals mg → FnOk P w K mg base CX0 4 fE fdE ["_law_value"] spExp)
    (FR : Fun K "inventory_error" "inventory_error" sErr fR fdR) (bR : Binds K fdR ["value"] []) (gR : mg "inventory_error" = some (.ref fR)) (GR : ∀ base : Heap, K.In base → base.Ns mainGlobals mg → FnOk P w K mg base CX0 6 fR fdR ["value"] spErr)
    (FX : Fun K "_law_raised" "_law_raised" sRai fX fdX) (bX : Binds K fdX ["_law_which", "_law_inventory_here"] []) (gX : mg "_law_raised" = some (.ref fX)) (GX : ∀ base : Heap, K.In base → base.Ns mainGlobals mg → FnOk P w K mg base CX0 9 fX fdX ["_law_which", "_law_inventory_here"] spRai)
    (mr : mg "range" = none) (mre : mg "repr" = none) : HeadG.TopRun P w K mg fa a ns := by
  refine HeadG.top_of (k := 9) F scLw hb ⟨rfl, by decide, by decide⟩ fun base H s cdv kin ns0 hS hr hg => ?_
  have nd := scLw.nd
  have GA := GA base kin ns0
  have GI := GI base kin ns0
  have GM := GM base kin ns0
  have GE := GE base kin ns0
  have GR := GR base kin ns0
  have GX := GX base kin ns0
  have hr1 : Room 1 (callerA.deeper (envOfC "law" (defScope sLw) s.heap.objs.size fa cdv)) := hr.mono (by decide)
  have hr4 : Room 4 (callerA.deeper (envOfC "law" (defScope sLw) s.heap.objs.size fa cdv)) := hr.mono (by decide)
  have hr6 : Room 6 (callerA.deeper (envOfC "law" (defScope sLw) s.heap.objs.size fa cdv)) := hr.mono (by decide)
  have hu : (callerA.deeper (envOfC "law" (defScope sLw) s.heap.objs.size fa cdv)).units + 100 < cLine := by
    have z := hr.un
    omega
  refine ⟨_, pss_cons (ps_set (i := 1) nd rfl (.inr rfl) (pe_call GA hr1 (by rfl) gA FA.kp bA .nil pass0 (pa_cons (pv 0) pa_nil)))
    (pss_cons (ps_for PassesOwn.never rfl (pi_range1 (by rfl) mr (pa_cons pe_int pa_nil)) (pg_name (i := 2) nd rfl (.inl rfl))
      (pss_cons (ps_set (i := 3) nd rfl (.inr rfl) (pe_ix ix_tup (pe_call GI hr4 (by rfl) gI FI.kp bI .nil pass0 (pa_cons (pv 1) (pa_cons pe_int pa_nil))) pe_int (fun _ _ => rfl)))
      (pss_one (ps_for PassesOwn.never rfl (pi_list (pe_op op_cat (pe_lst (pa_cons (pv 3) pa_nil))
          (pe_lc (own := [("_law_k", 7)]) (g := gName 7) (tt := tYes) (te := tCall spMut [] E0 (tCons (tVar 1) (tCons (tVar 3) tNil))) (by rfl) nd (pi_range1 (by rfl) mr (pa_cons pe_int pa_nil)) (blkOk_by (own := [("_law_k", 7)]) (N := nLw) (sc := defScope sLw) (by decide +kernel))
            (fun _ _ _ _ _ => pg_name (i := 7) nd rfl (.inl rfl)) (fun _ _ _ _ _ => pts_nil) (fun _ _ _ _ _ => pe_call GM hr4 (by rfl) gM FM.kp bM .nil pass0 (pa_cons (pv 1) (pa_cons (pv 3) pa_nil)))))) (pg_name (i := 4) nd rfl (.inr rfl))
        (pss_cons (ps_set (i := 5) nd rfl (.inl rfl) (pe_callB (Dl.call_repr hg hu) (by rfl) mre (by decide +kernel) (pa_cons (pv 4) pa_nil)))
        (pss_cons (ps_set (i := 6) nd rfl (.inl rfl) (pe_call GE hr4 (by rfl) gE FE.kp bE .nil pass0 (pa_cons (pv 4) pa_nil)))
        (pss_cons (ps_if (PW.pt (pw_or (pt_cmpR (op_neD hr.units) (pe_call GR hr6 (by rfl) gR FR.kp bR .nil pass0 (pa_cons (pv 4) pa_nil)) (pv 6) (nomark _))
            (pw_or1 (pt_cmpR op_ne (pe_callB (Dl.call_repr hg hu) (by rfl) mre (by decide +kernel) (pa_cons (pv 4) pa_nil)) (pv 5) (nomark _))))) (pss_one (ps_ret pe_bl)) pss_nil)
        (pss_one (ps_if (pt_cmpR (op_neD hr.units)
            (pe_lc (own := [("_law_which", 8)]) (g := gName 8) (tt := tYes) (te := tCall spRai [] E0 (tCons (tVar 8) (tCons (tVar 4) tNil))) (by rfl) nd (pi_range1 (by rfl) mr (pa_cons pe_int pa_nil)) (blkOk_by (own := [("_law_which", 8)]) (N := nLw) (sc := defScope sLw) (by decide +kernel))
              (fun _ _ _ _ _ => pg_name (i := 8) nd rfl (.inl rfl)) (fun _ _ _ _ _ => pts_nil) (fun _ _ _ _ _ => pe_call GX hr (by rfl) gX FX.kp bX .nil pass0 (pa_cons (pv 8) (pa_cons (pv 4) pa_nil))))
            (pe_op op_rep (pe_lst (pa_cons (pv 6) pa_nil)) pe_int) (nomark _)) (pss_one (ps_ret pe_bl)) pss_nil)))))))))
    (pss_one (ps_ret pe_bl))), ?_⟩
  refine ⟨_, rfl, a, ns, rfl, hS, hlen, fun H1 S e1 n1 n2 s1 => ?_⟩
  have at1 : Gn.At S H H1 0 := ⟨e1, ⟨n1, n2⟩, s1⟩
  refine Dl.q_forR (F := H) (n := 6) (Dl.cons Dl.int Dl.nil) at1.i (by decide) (fun i σ' H' => ∃ (F' : Hp) (t : Nat) (o2 o3 o4 o5 o6 o7 o8 : Option V), σ' = [some (.ref a), some (.ref S.1), o2, o3, o4, o5, o6, o7, o8] ∧ Gn.At S F' H' t ∧ t ≤ i * 500)
    (fun F1 H1' st => ⟨F1, 0, none, none, none, none, none, none, none, rfl, at1.step st, Nat.zero_le _⟩) (fun i σ' H2 hi p => ?_) (fun σ' H2 p => ?_)
  · obtain ⟨F2, t, o2, o3, o4, o5, o6, o7, o8, rfl, a2, tl⟩ := p
    have hi6 : i < 6 := by omega
    -- the inventory
    refine Gn.q_asg (S := S) (n := 400) (P := fun d => ∃ (roots : List Str) (its : List Itm), d = .tuple [.tuple (roots.map .str), .list (its.map encI)] ∧ InvOk roots its) (Gn.EvG.weak (Gn.op (S := S) (Gn.callG (S := S) (i := 1) (ok := okInvD) (Pf := reInv) rfl (Gn.cons (Gn.pure (Dl.int (i := 24))) Gn.nil) (fun ds h => by
        obtain ⟨d, es, rfl, rfl, rfl⟩ := h
        exact ⟨24, rfl, by decide, by decide⟩)) (Gn.pure Dl.int) (fun d1 d2 h1 h2 => by
        obtain ⟨ds, _, roots, its, xs, rfl, iok⟩ := h1
        subst h2
        exact ⟨_, ⟨roots, its, rfl, iok⟩, Dl.ixT (i := 0) rfl⟩)) (by decide) (fun d h => h)) a2 (by omega) fun x3 d F3 H3 t3 s3 a3 l3 tx3 hd => ?_
    obtain ⟨roots, its, rfl, iok⟩ := hd
    -- the values
    have vI := inv_nice iok
    have ev : Gn.EvG S (tOp rCat (tLst (tCons (tVar 3) tNil)) (tLc (iRng1 (tCons (tC (.int 3)) tNil)) (gName 7) tYes (tCall spMut [] E0 (tCons (tVar 1) (tCons (tVar 3) tNil))) [7])) [some (.ref a), some (.ref S.1), some (.int (i : Int)), some x3, o4, o5, o6, o7, o8] F3 60 (fun d => ∃ ds, d = .list ds ∧ ds.length ≤ 4 ∧ ∀ e ∈ ds, Val e) := by
      refine Gn.EvG.weak (Gn.op (S := S) (P3 := fun d => ∃ ds, d = .list ds ∧ ds.length ≤ 4 ∧ ∀ e ∈ ds, Val e) (Gn.pure (Dl.lst (Dl.cons (Dl.var rfl tx3) Dl.nil) (by show 1 ≤ 100000; decide))) (Gn.lcRG (S := S) (P := Val) (c := 20) (N := 3) (m := 0) (Ps := (· = [.int 3])) (Gn.EvGA.weak (Gn.cons (Gn.pure (Dl.int (i := 3))) Gn.nil) (by decide) (fun ds h => by
          obtain ⟨d, es, rfl, rfl, rfl⟩ := h
          rfl)) (fun ds h => ⟨3, h, by decide, by decide⟩) (by decide) (fun _ => rfl) (fun j G eg hj => Gn.EvG.weak (Gn.callG (S := S) (i := 1) (ok := okMut) (Pf := fun _ d => Val d) rfl (Gn.cons (Gn.pure (Dl.var rfl (tx3.mono eg))) Gn.nil) (fun ds h => by
          obtain ⟨d, es, rfl, rfl, rfl⟩ := h
          exact ⟨roots, its, rfl, iok⟩)) (by decide) (fun d h => by
          obtain ⟨_, _, h⟩ := h
          exact h))) (fun d1 d2 h1 h2 => by
          obtain ⟨k, es, hk, rfl, hl, he⟩ := h2
          have hk' := PyData.int.inj (List.head_eq_of_cons_eq hk)
          subst h1
          subst hk'
          have l3 : es.length = 3 := hl
          refine ⟨_, ⟨_, rfl, by rw [List.length_append, l3]; show 1 + 3 ≤ 4; decide, fun e he2 => ?_⟩, Dl.cat (by rw [l3]; show 1 + 3 ≤ 100000; decide)⟩
          rcases List.mem_append.mp he2 with z | z
          · rw [List.mem_singleton.mp z]
            exact vI
          · exact he e z)) (by decide) (fun d h => h)
    refine ev F3 H3 t3 (Evl.Ex.refl _) a3 (by omega) _ fun xv dv F4 H4 t4 s4 a4 l4 tv hv => ?_
    obtain ⟨ds, rfl, len, hds⟩ := hv
    cases tv with
    | @lst lv xs _ hlv ts =>
    refine ⟨lv, rfl, ⟨xs, Evl.sq_of (a4.i _ _ hlv)⟩, for_list (xs := xs) (fun j σ' H' => ∃ (F' : Hp) (o4 o5 o6 o8 : Option V), σ' = [some (.ref a), some (.ref S.1), some (.int (i : Int)), some x3, o4, o5, o6, o7, o8] ∧ Evl.Ex F4 F' ∧ Gn.At S F' H' t4) ⟨F4, _, _, _, _, rfl, Evl.Ex.refl _, a4⟩ (fun j σ' H' hj p => ?_) (fun j x σ' H' hx p => ?_) (fun σ' H' p => ?_)⟩
    · obtain ⟨F', o4', o5', o6', o8', rfl, e', a'⟩ := p
      exact Evl.sq_of (a'.i _ _ (e' _ _ hlv))
    · obtain ⟨F', o4', o5', o6', o8', rfl, e', a'⟩ := p
      obtain ⟨d, hd, tx⟩ := ts.getV hx
      have vd : Val d := hds d (List.mem_of_getElem? hd)
      have tx := tx.mono e'
      refine Gn.gname_in ?_
      refine Dl.q_asg (F := F') (Dl.rpr (Dl.var rfl tx) vd.rp) a'.i fun x5 F5 H5 s5 t5 => ?_
      have a5 := a'.step s5
      have tx := tx.mono s5.f
      refine Dl.q_asg (F := F5) (ExpE d rfl tx vd.flat) a5.i fun x6 F6 H6 s6 t6 => ?_
      have a6 := a5.step s6
      have tx := tx.mono s6.f
      have t5 := t5.mono s6.f
      obtain ⟨g1, g2⟩ := err_good d
      obtain ⟨g3, g4⟩ := err_good3 d
      refine Dl.q_when (F := F6) (c := false) (Dl.tis (Dl.tor (a := false) (b := false) (Dl.test (Dl.is_ (Dl.op (ErrE d rfl tx vd.fit) (Dl.var rfl t6) (Dl.neD g1 g1)) (by rw [g2]; rfl))) (fun _ => Dl.test (Dl.op (Dl.rpr (Dl.var rfl tx) vd.rp) (Dl.var rfl t5) Dl.neSt))) rfl) a6.i (fun z => Bool.noConfusion z) (fun _ F7 H7 s7 => ?_)
      have a7 := a6.step s7
      have tx := tx.mono s7.f
      have t6 := t6.mono s7.f
      refine Dl.s_if (F := F7) (c := false) (Dl.test (Dl.is_ (Dl.op (d1 := .list [errD d, errD d, errD d]) (d2 := .list [errD d, errD d, errD d]) (Dl.is_ (Dl.lcR1 (n := 3) (fun _ => true) (fun _ => errD d) (Dl.cons Dl.int Dl.nil) (by decide) (fun _ => rfl) (fun _ _ _ _ => Dl.tyes) (fun n G eg hn _ => RaiE d rfl rfl (tx.mono eg) (by omega) vd.fit)) rfl) (Dl.is_ (Dl.op (Dl.lst (Dl.cons (Dl.var rfl t6) Dl.nil) (by show 1 ≤ 100000; decide)) (Dl.int (i := 3)) (Dl.repL (by decide) (by show 1 ≤ 100; decide))) rfl) (Dl.neD g3 g3)) (by rw [g4]; rfl))) a7.i (fun z => Bool.noConfusion z) (fun _ F8 H8 s8 => ?_)
      exact ⟨F8, _, _, _, _, rfl, ((((e'.trans s5.f).trans s6.f).trans s7.f).trans s8.f), a7.step s8⟩
    · obtain ⟨F', o4', o5', o6', o8', rfl, e', a'⟩ := p
      exact ⟨F', t4, _, _, _, _, _, _, _, rfl, a', by omega⟩
  · obtain ⟨F2, t, o2, o3, o4, o5, o6, o7, o8, rfl, a2, tl⟩ := p
    exact rfl
end
end Lw
set_option Elab.async false
set_option linter.all false
set_option maxRecDepth 100000
set_option maxHeartbeats 4000000
namespace Lw
open PySem PySem.Spec PyProof.Rows L2 ExV
section
variable {P : Program} {w : World} {K : PySem.W.Frag} {mg : Str → Option Value}
theorem kit_none {n : Str} {c : Addr} {tl : List Value} (z : ClsF K n c tl) : PySem.W.kitOne K (.type "NoneType") (.ref c) = some false := by
  obtain ⟨cd, h1, _⟩ := z.cls
  unfold PySem.W.kitOne
  rw [if_neg (by simp)]
  show (if ((PySem.W.clsIn K c).isSome && PySem.W.typeIn K (.ref c) == some (.type "type")) = true then PySem.W.subIn K (.type "NoneType") (.ref c) else none) = _
  rw [if_pos (by rw [h1, z.tC]; rfl)]
  have e : fastBuiltinMro "NoneType" = some [.type "NoneType", .type "object"] := by decide +kernel
  show (fastBuiltinMro "NoneType").map (·.contains (Value.ref c)) = _
  rw [e]
  simp
theorem two_mk {C L f : Addr} {q : Str} {st : Stmt} (zC : ClsF K "InvalidInventory" C (.ref L :: veT)) (zL : ClsF K "LikeholesError" L veT) (i : IniF K q st "reason" C f) (gC : mg "InvalidInventory" = some (.ref C)) (gL : mg "LikeholesError" = some (.ref L))
    (hn : PySem.W.specialIn K (.builtin "object.__class__") "__get__" = some (some (.builtin "getset_descriptor.__get__"))) (ht : PySem.W.takesIn K (.builtin "object.__class__") = some true) : Two K mg C L where
  gC := gC
  gL := gL
  excC := zC.exc (by simp) (by simp) hn ht
  xf := zC.xf (by simp)
  nf := i.nf
  hit := PySem.W.exm_ref (by
    show PySem.W.mroIn K L _ = _
    rw [zL.mro]
    simp) zL.hd zL.tC (by
    show PySem.W.mroIn K C _ = _
    rw [zC.mro]
    simp)
  kitC := by
    rw [zC.kit zC, decide_eq_true rfl, Bool.true_or]
  kitV := zC.kitV (by simp)
  kitN := kit_none zC
abbrev sIniI : Stmt := inClass (topS 3) 0
theorem scIniI : FnScope ["self", "reason"] ["self", "reason"] (defScope sIniI) := ⟨rfl, rfl, rfl, by decide +kernel, rfl, by decide +kernel, by decide +kernel⟩
theorem ok_iniI {base : Heap} {c f : Addr} (T : OexC K c) (z : IniF K "InvalidInventory.__init__" sIniI "reason" c f) : IniC P w K mg base c f "reason" :=
  ini_ok T z scIniI (fun cdv A outer s H E => pss_one (ps_ost (pv 0) (pv 1))) (fun _ _ _ _ _ _ _ _ => rfl) (fun _ _ _ _ _ _ _ _ => rfl)
theorem all_mk {h : Heap} {fa cL cC fI d11 d12 d13 d14 d15 d16 d17 d18 d19 d20 d21 d22 d23 d24 d26 d27 d28 d29 d30 d31 d32 d33 d34 d35 d36 d37 d38 : Addr} {t_MAX_LETTERS t_MAX_ROOTS t_MAX_ITEMS t_MAX_SLOTS t_MAX_KINDS t_LETTERS : Tok} (X : K.In h) (G : h.Ns mainGlobals mg) (hfa : mg "law" = some (.ref fa))
    (zL : ClsF K "LikeholesError" cL veT) (zC : ClsF K "InvalidInventory" cC (.ref cL :: veT)) (iI : IniF K "InvalidInventory.__init__" sIniI "reason" cC fI)
    (e11 : DefF K "inventory_error" (topS 11) d11)
    (e12 : DefF K "list_slots" (topS 12) d12)
    (e13 : DefF K "slot_kind" (topS 13) d13)
    (e14 : DefF K "slot_surplus" (topS 14) d14)
    (e15 : DefF K "check_inventory" (topS 15) d15)
    (e16 : DefF K "check_slot" (topS 16) d16)
    (e17 : DefF K "kinds_by_slot" (topS 17) d17)
    (e18 : DefF K "kinds_by_name" (topS 18) d18)
    (e19 : DefF K "distinct_kinds" (topS 19) d19)
    (e20 : DefF K "is_slot" (topS 20) d20)
    (e21 : DefF K "is_word" (topS 21) d21)
    (e22 : DefF K "is_tuple_of_kinds" (topS 22) d22)
    (e23 : DefF K "is_item" (topS 23) d23)
    (e24 : DefF K "index_of_bad_item" (topS 24) d24)
    (e26 : DefF K "_law_source" (topS 26) d26)
    (e27 : DefF K "_law_draw" (topS 27) d27)
    (e28 : DefF K "_law_pick" (topS 28) d28)
    (e29 : DefF K "_law_shuffle" (topS 29) d29)
    (e30 : DefF K "_law_items" (topS 30) d30)
    (e31 : DefF K "_law_inventory" (topS 31) d31)
    (e32 : DefF K "_law_is_word" (topS 32) d32)
    (e33 : DefF K "_law_are_kinds" (topS 33) d33)
    (e34 : DefF K "_law_expected" (topS 34) d34)
    (e35 : DefF K "_law_mutated_item" (topS 35) d35)
    (e36 : DefF K "_law_mutated" (topS 36) d36)
    (e37 : DefF K "_law_raised" (topS 37) d37)
    (e38 : DefF K "law" (topS 38) d38)
    (g_MAX_LETTERS : PySem.W.nsIn K mainGlobals "MAX_LETTERS" = some (some (.int 8 t_MAX_LETTERS)))
    (g_MAX_ROOTS : PySem.W.nsIn K mainGlobals "MAX_ROOTS" = some (some (.int 4 t_MAX_ROOTS)))
    (g_MAX_ITEMS : PySem.W.nsIn K mainGlobals "MAX_ITEMS" = some (some (.int 24 t_MAX_ITEMS)))
    (g_MAX_SLOTS : PySem.W.nsIn K mainGlobals "MAX_SLOTS" = some (some (.int 4 t_MAX_SLOTS)))
    (g_MAX_KINDS : PySem.W.nsIn K mainGlobals "MAX_KINDS" = some (some (.int 6 t_MAX_KINDS)))
    (g_LETTERS : PySem.W.nsIn K mainGlobals "LETTERS" = some (some (.str letters t_LETTERS)))
    (b_range : PySem.W.nsIn K mainGlobals "range" = some none)
    (b_len : PySem.W.nsIn K mainGlobals "len" = some none)
    (b_abs : PySem.W.nsIn K mainGlobals "abs" = some none)
    (b_tuple : PySem.W.nsIn K mainGlobals "tuple" = some none)
    (b_list : PySem.W.nsIn K mainGlobals "list" = some none)
    (b_min : PySem.W.nsIn K mainGlobals "min" = some none)
    (b_sorted : PySem.W.nsIn K mainGlobals "sorted" = some none)
    (b_isinstance : PySem.W.nsIn K mainGlobals "isinstance" = some none)
    (b_str : PySem.W.nsIn K mainGlobals "str" = some none)
    (b_all : PySem.W.nsIn K mainGlobals "all" = some none)
    (b_enumerate : PySem.W.nsIn K mainGlobals "enumerate" = some none)
    (b_int : PySem.W.nsIn K mainGlobals "int" = some none)
    (b_bool : PySem.W.nsIn K mainGlobals "bool" = some none)
    (b_set : PySem.W.nsIn K mainGlobals "set" = some none)
    (b_repr : PySem.W.nsIn K mainGlobals "repr" = some none)
    (b_ValueError : PySem.W.nsIn K mainGlobals "ValueError" = some none)
    (hn : PySem.W.specialIn K (.builtin "object.__class__") "__get__" = some (some (.builtin "getset_descriptor.__get__"))) (ht : PySem.W.takesIn K (.builtin "object.__class__") = some true) :
    ∀ (a : Addr) (ns : List Int), ns.length ≤ 63 → HeadG.TopRun P w K mg fa a ns := by
  intro a ns hlen
  have m_range := PySem.W.mg_none_of X G b_range
  have m_len := PySem.W.mg_none_of X G b_len
  have m_abs := PySem.W.mg_none_of X G b_abs
  have m_tuple := PySem.W.mg_none_of X G b_tuple
  have m_list := PySem.W.mg_none_of X G b_list
  have m_min := PySem.W.mg_none_of X G b_min
  have m_sorted := PySem.W.mg_none_of X G b_sorted
  have m_isinstance := PySem.W.mg_none_of X G b_isinstance
  have m_str := PySem.W.mg_none_of X G b_str
  have m_all := PySem.W.mg_none_of X G b_all
  have m_enumerate := PySem.W.mg_none_of X G b_enumerate
  have m_int := PySem.W.mg_none_of X G b_int
  have m_bool := PySem.W.mg_none_of X G b_bool
  have m_set := PySem.W.mg_none_of X G b_set
  have m_repr := PySem.W.mg_none_of X G b_repr
  have m_ValueError := PySem.W.mg_none_of X G b_ValueError
  have l_MAX_LETTERS : GlI mg "MAX_LETTERS" 8 := ⟨_, PySem.W.mg_of X G g_MAX_LETTERS⟩
  have l_MAX_ROOTS : GlI mg "MAX_ROOTS" 4 := ⟨_, PySem.W.mg_of X G g_MAX_ROOTS⟩
  have l_MAX_ITEMS : GlI mg "MAX_ITEMS" 24 := ⟨_, PySem.W.mg_of X G g_MAX_ITEMS⟩
  have l_MAX_SLOTS : GlI mg "MAX_SLOTS" 4 := ⟨_, PySem.W.mg_of X G g_MAX_SLOTS⟩
  have l_MAX_KINDS : GlI mg "MAX_KINDS" 6 := ⟨_, PySem.W.mg_of X G g_MAX_KINDS⟩
  have l_LETTERS : GlS mg "LETTERS" letters := ⟨_, PySem.W.mg_of X G g_LETTERS⟩
  obtain ⟨f11, F11⟩ := e11.fun_
  have m11 := PySem.W.mg_of X G e11.gl
  have B11 : Binds K f11 ["value"] [] := F11.binds (ps := ["value"]) fun _ _ _ _ _ _ us hl => match us, hl with | [_], _ => rfl
  obtain ⟨f12, F12⟩ := e12.fun_
  have m12 := PySem.W.mg_of X G e12.gl
  have B12 : Binds K f12 ["inventory"] [] := F12.binds (ps := ["inventory"]) fun _ _ _ _ _ _ us hl => match us, hl with | [_], _ => rfl
  obtain ⟨f13, F13⟩ := e13.fun_
  have m13 := PySem.W.mg_of X G e13.gl
  have B13 : Binds K f13 ["inventory", "slot"] [] := F13.binds (ps := ["inventory", "slot"]) fun _ _ _ _ _ _ us hl => match us, hl with | [_, _], _ => rfl
  obtain ⟨f14, F14⟩ := e14.fun_
  have m14 := PySem.W.mg_of X G e14.gl
  have B14 : Binds K f14 ["inventory"] [] := F14.binds (ps := ["inventory"]) fun _ _ _ _ _ _ us hl => match us, hl with | [_], _ => rfl
  obtain ⟨f15, F15⟩ := e15.fun_
  have m15 := PySem.W.mg_of X G e15.gl
  have B15 : Binds K f15 ["inventory"] [] := F15.binds (ps := ["inventory"]) fun _ _ _ _ _ _ us hl => match us, hl with | [_], _ => rfl
  obtain ⟨f16, F16⟩ := e16.fun_
  have m16 := PySem.W.mg_of X G e16.gl
  have B16 : Binds K f16 ["inventory", "slot"] [] := F16.binds (ps := ["inventory", "slot"]) fun _ _ _ _ _ _ us hl => match us, hl with | [_, _], _ => rfl
  obtain ⟨f17, F17⟩ := e17.fun_
  have m17 := PySem.W.mg_of X G e17.gl
  have B17 : Binds K f17 ["inventory"] [] := F17.binds (ps := ["inventory"]) fun _ _ _ _ _ _ us hl => match us, hl with | [_], _ => rfl
  obtain ⟨f18, F18⟩ := e18.fun_
  have m18 := PySem.W.mg_of X G e18.gl
  have B18 : Binds K f18 ["inventory"] [] := F18.binds (ps := ["inventory"]) fun _ _ _ _ _ _ us hl => match us, hl with | [_], _ => rfl
  obtain ⟨f19, F19⟩ := e19.fun_
  have m19 := PySem.W.mg_of X G e19.gl
  have B19 : Binds K f19 ["inventory"] [] := F19.binds (ps := ["inventory"]) fun _ _ _ _ _ _ us hl => match us, hl with | [_], _ => rfl
  obtain ⟨f20, F20⟩ := e20.fun_
  have m20 := PySem.W.mg_of X G e20.gl
  have B20 : Binds K f20 ["value"] [] := F20.binds (ps := ["value"]) fun _ _ _ _ _ _ us hl => match us, hl with | [_], _ => rfl
  obtain ⟨f21, F21⟩ := e21.fun_
  have m21 := PySem.W.mg_of X G e21.gl
  have B21 : Binds K f21 ["value"] [] := F21.binds (ps := ["value"]) fun _ _ _ _ _ _ us hl => match us, hl with | [_], _ => rfl
  obtain ⟨f22, F22⟩ := e22.fun_
  have m22 := PySem.W.mg_of X G e22.gl
  have B22 : Binds K f22 ["value", "least", "most"] [] := F22.binds (ps := ["value", "least", "most"]) fun _ _ _ _ _ _ us hl => match us, hl with | [_, _, _], _ => rfl
  obtain ⟨f23, F23⟩ := e23.fun_
  have m23 := PySem.W.mg_of X G e23.gl
  have B23 : Binds K f23 ["value"] [] := F23.binds (ps := ["value"]) fun _ _ _ _ _ _ us hl => match us, hl with | [_], _ => rfl
  obtain ⟨f24, F24⟩ := e24.fun_
  have m24 := PySem.W.mg_of X G e24.gl
  have B24 : Binds K f24 ["items"] [] := F24.binds (ps := ["items"]) fun _ _ _ _ _ _ us hl => match us, hl with | [_], _ => rfl
  obtain ⟨f26, F26⟩ := e26.fun_
  have m26 := PySem.W.mg_of X G e26.gl
  have B26 : Binds K f26 ["_law_script"] [] := F26.binds (ps := ["_law_script"]) fun _ _ _ _ _ _ us hl => match us, hl with | [_], _ => rfl
  obtain ⟨f27, F27⟩ := e27.fun_
  have m27 := PySem.W.mg_of X G e27.gl
  have B27 : Binds K f27 ["_law_source_here", "_law_limit"] [] := F27.binds (ps := ["_law_source_here", "_law_limit"]) fun _ _ _ _ _ _ us hl => match us, hl with | [_, _], _ => rfl
  obtain ⟨f28, F28⟩ := e28.fun_
  have m28 := PySem.W.mg_of X G e28.gl
  have B28 : Binds K f28 ["_law_source_here", "_law_values"] [] := F28.binds (ps := ["_law_source_here", "_law_values"]) fun _ _ _ _ _ _ us hl => match us, hl with | [_, _], _ => rfl
  obtain ⟨f29, F29⟩ := e29.fun_
  have m29 := PySem.W.mg_of X G e29.gl
  have B29 : Binds K f29 ["_law_source_here", "_law_values"] [] := F29.binds (ps := ["_law_source_here", "_law_values"]) fun _ _ _ _ _ _ us hl => match us, hl with | [_, _], _ => rfl
  obtain ⟨f30, F30⟩ := e30.fun_
  have m30 := PySem.W.mg_of X G e30.gl
  have B30 : Binds K f30 ["_law_source_here", "_law_limit", "_law_kinds"] [] := F30.binds (ps := ["_law_source_here", "_law_limit", "_law_kinds"]) fun _ _ _ _ _ _ us hl => match us, hl with | [_, _, _], _ => rfl
  obtain ⟨f31, F31⟩ := e31.fun_
  have m31 := PySem.W.mg_of X G e31.gl
  have B31 : Binds K f31 ["_law_source_here", "_law_limit"] [] := F31.binds (ps := ["_law_source_here", "_law_limit"]) fun _ _ _ _ _ _ us hl => match us, hl with | [_, _], _ => rfl
  obtain ⟨f32, F32⟩ := e32.fun_
  have m32 := PySem.W.mg_of X G e32.gl
  have B32 : Binds K f32 ["_law_value"] [] := F32.binds (ps := ["_law_value"]) fun _ _ _ _ _ _ us hl => match us, hl with | [_], _ => rfl
  obtain ⟨f33, F33⟩ := e33.fun_
  have m33 := PySem.W.mg_of X G e33.gl
  have B33 : Binds K f33 ["_law_value", "_law_least"] [] := F33.binds (ps := ["_law_value", "_law_least"]) fun _ _ _ _ _ _ us hl => match us, hl with | [_, _], _ => rfl
  obtain ⟨f34, F34⟩ := e34.fun_
  have m34 := PySem.W.mg_of X G e34.gl
  have B34 : Binds K f34 ["_law_value"] [] := F34.binds (ps := ["_law_value"]) fun _ _ _ _ _ _ us hl => match us, hl with | [_], _ => rfl
  obtain ⟨f35, F35⟩ := e35.fun_
  have m35 := PySem.W.mg_of X G e35.gl
  have B35 : Binds K f35 ["_law_source_here", "_law_one"] [] := F35.binds (ps := ["_law_source_here", "_law_one"]) fun _ _ _ _ _ _ us hl => match us, hl with | [_, _], _ => rfl
  obtain ⟨f36, F36⟩ := e36.fun_
  have m36 := PySem.W.mg_of X G e36.gl
  have B36 : Binds K f36 ["_law_source_here", "_law_inventory_here"] [] := F36.binds (ps := ["_law_source_here", "_law_inventory_here"]) fun _ _ _ _ _ _ us hl => match us, hl with | [_, _], _ => rfl
  obtain ⟨f37, F37⟩ := e37.fun_
  have m37 := PySem.W.mg_of X G e37.gl
  have B37 : Binds K f37 ["_law_which", "_law_inventory_here"] [] := F37.binds (ps := ["_law_which", "_law_inventory_here"]) fun _ _ _ _ _ _ us hl => match us, hl with | [_, _], _ => rfl
  obtain ⟨f38, F38⟩ := e38.fun_
  have m38 := PySem.W.mg_of X G e38.gl
  have B38 : Binds K f38 ["_law_script"] [] := F38.binds (ps := ["_law_script"]) fun _ _ _ _ _ _ us hl => match us, hl with | [_], _ => rfl
  have e := hfa.symm.trans m38
  cases e
  have vT : PySem.HandSPX.refsVE (.ref cL :: veT) = true := by rfl
  have T := two_mk zC zL iI (PySem.W.mg_of X G zC.gl) (PySem.W.mg_of X G zL.gl) hn ht
  have gC := T.gC
  have Z : ∀ base : Heap, IniC P w K mg base cC fI "reason" := fun base => ok_iniI (zC.oex (by simp) vT) iI
  have o27 : ∀ base : Heap, FnOk P w K mg base CX0 1 d27 f27 _ _ := fun base => ok_draw F27 m_len
  have o28 : ∀ base : Heap, FnOk P w K mg base CX0 2 d28 f28 _ _ := fun base => ok_pick F28 F27 B27 m27 m_len
  have o29 : ∀ base : Heap, FnOk P w K mg base CX0 2 d29 f29 _ _ := fun base => ok_shuf F29 F27 B27 m27 (o27 base) m_len
  have o30 : ∀ base : Heap, FnOk P w K mg base CX0 3 d30 f30 _ _ := fun base => ok_items F30 F27 B27 m27 (o27 base) F28 B28 m28 (o28 base) m_len m_tuple m_range m_list m_min
  have o31 : ∀ base : Heap, FnOk P w K mg base CX0 4 d31 f31 _ _ := fun base => ok_inv F31 F27 B27 m27 (o27 base) F29 B29 m29 (o29 base) F30 B30 m30 (o30 base) m_len m_range m_sorted
  have o35 : ∀ base : Heap, FnOk P w K mg base CX0 3 d35 f35 _ _ := fun base => ok_mutI F35 F28 B28 m28 (o28 base) m_len m_list
  have o36 : ∀ base : Heap, FnOk P w K mg base CX0 4 d36 f36 _ _ := fun base => ok_mut F36 F27 B27 m27 (o27 base) F28 B28 m28 (o28 base) F35 B35 m35 (o35 base) m_len m_list m_tuple m_sorted
  have o32 : ∀ base : Heap, FnOk P w K mg base CX0 1 d32 f32 _ _ := fun base => ok_lword F32 m_isinstance m_str m_len
  have o33 : ∀ base : Heap, FnOk P w K mg base CX0 3 d33 f33 _ _ := fun base => ok_lkinds F33 F32 B32 m32 (o32 base) m_isinstance m_tuple m_len
  have o34 : ∀ base : Heap, FnOk P w K mg base CX0 4 d34 f34 _ _ := fun base => ok_exp F34 F32 B32 m32 (o32 base) F33 B33 m33 (o33 base) m_isinstance m_tuple m_list m_len m_range m_set m_int
  have o21 : ∀ base : Heap, FnOk P w K mg base CX0 1 d21 f21 _ _ := fun base => ok_word F21 m_isinstance m_str m_len m_all l_MAX_LETTERS l_LETTERS
  have o22 : ∀ base : Heap, FnOk P w K mg base CX0 3 d22 f22 _ _ := fun base => ok_kinds F22 F21 B21 m21 (o21 base) m_isinstance m_tuple m_len m_all
  have o23 : ∀ base : Heap, FnOk P w K mg base CX0 4 d23 f23 _ _ := fun base => ok_item F23 F21 B21 m21 (o21 base) F22 B22 m22 (o22 base) m_isinstance m_tuple m_len l_MAX_SLOTS
  have o24 : ∀ base : Heap, FnOk P w K mg base CX0 5 d24 f24 _ _ := fun base => ok_bad F24 F23 B23 m23 (o23 base) m_enumerate
  have o19 : ∀ base : Heap, FnOk P w K mg base CX0 1 d19 f19 _ _ := fun base => ok_dist F19 m_list m_sorted m_set
  have o11 : ∀ base : Heap, FnOk P w K mg base CX0 6 d11 f11 _ _ := fun base => ok_err F11 F22 B22 m22 (o22 base) F24 B24 m24 (o24 base) F19 B19 m19 (o19 base) m_isinstance m_tuple m_list m_len l_MAX_ROOTS l_MAX_ITEMS l_MAX_KINDS
  have o17 : ∀ base : Heap, FnOk P w K mg base CX0 1 d17 f17 _ _ := fun base => ok_kbs F17 m_enumerate
  have o18 : ∀ base : Heap, FnOk P w K mg base CX0 1 d18 f18 _ _ := fun base => ok_kbn F18
  have o20 : ∀ base : Heap, FnOk P w K mg base CX0 1 d20 f20 _ _ := fun base => ok_slot F20 m_isinstance m_tuple m_len m_str m_int m_bool
  have o15 : ∀ base : Heap, FnOk P w K mg base (L2.CX P w) 7 d15 f15 _ _ := fun base => ok_chk F15 F11 B11 m11 (o11 base) (Z base) gC
  have o12 : ∀ base : Heap, FnOk P w K mg base (L2.CX P w) 8 d12 f12 _ _ := fun base => ok_ls F12 F15 B15 m15 (o15 base) F17 B17 m17 (o17 base) m_list
  have o16 : ∀ base : Heap, FnOk P w K mg base CX0 2 d16 f16 _ _ := fun base => ok_cs0 F16 F17 B17 m17 (o17 base) F20 B20 m20 (o20 base)
  have o13 : ∀ base : Heap, FnOk P w K mg base (L2.CX P w) 8 d13 f13 _ _ := fun base => ok_sk F13 F15 B15 m15 (o15 base) F17 B17 m17 (o17 base) F16 B16 m16 (o16 base)
  have o14 : ∀ base : Heap, FnOk P w K mg base (L2.CX P w) 8 d14 f14 _ _ := fun base => ok_su F14 F15 B15 m15 (o15 base) F17 B17 m17 (o17 base) F18 B18 m18 (o18 base) F19 B19 m19 (o19 base)
  have o37 : ∀ base : Heap, FnOk P w K mg base CX0 9 d37 f37 _ _ := fun base => ok_rai F37 F12 B12 m12 (o12 base) F14 B14 m14 (o14 base) F13 B13 m13 (o13 base) T m_isinstance m_ValueError
  refine top_law F38 (fun s v => ?_) hlen F26 B26 m26 (fun base _ _ => ok_source F26 m_range m_len m_abs) F31 B31 m31 (fun base _ _ => o31 base) F36 B36 m36 (fun base _ _ => o36 base) F34 B34 m34 (fun base _ _ => o34 base) F11 B11 m11 (fun base _ _ => o11 base) F37 B37 m37 (fun base _ _ => o37 base) m_range m_repr
  obtain ⟨oc, od, kV, doc, pm, an, cdv, ct, osl, rfl, lk, hcd⟩ := F38.ex
  exact .of_eq rfl
end
end Lw
set_option Elab.async false
set_option linter.all false
set_option maxRecDepth 100000
open PySem PySem.W PyProof.Rows
set_option maxHeartbeats 0 in
theorem PySem.Challenge.cw_likeholes_k01_inventory_errors_holds : PySem.Challenge.rw_likeholes_k01_inventory_errors.Holds := by
  w_on; o_law; k_head; (case hw => w_witness2)
  k_fill
  refine HeadG.walkG (l := PySem.Challenge.rw_likeholes_k01_inventory_errors) (n := 63) rfl (by decide) rfl (fun w h Y => PySem.W.kIn_of Y) ?F
  case F =>
    intro w mg fa h KX G hmg
    refine' Lw.all_mk KX G hmg ?zL ?zC ?iI ?e11 ?e12 ?e13 ?e14 ?e15 ?e16 ?e17 ?e18 ?e19 ?e20 ?e21 ?e22 ?e23 ?e24 ?e26 ?e27 ?e28 ?e29 ?e30 ?e31 ?e32 ?e33 ?e34 ?e35 ?e36 ?e37 ?e38 ?lit0 ?lit1 ?lit2 ?lit3 ?lit4 ?lit5 ?blt0 ?blt1 ?blt2 ?blt3 ?blt4 ?blt5 ?blt6 ?blt7 ?blt8 ?blt9 ?blt10 ?blt11 ?blt12 ?blt13 ?blt14 ?blt15 ?hn ?ht
    (case zL => refine' Lw.ClsF.of ?q1 ?q2 ?q3 ?q4 ?q5 ?q6 ?q7 ?q8; (case q1 => k_is); (case q2 => k_is); (case q3 => k_is); (case q4 => k_is); (case q5 => k_is); (case q6 => k_is); (case q7 => k_is); (case q8 => k_is))
    (case zC => refine' Lw.ClsF.of ?q1 ?q2 ?q3 ?q4 ?q5 ?q6 ?q7 ?q8; (case q1 => k_is); (case q2 => k_is); (case q3 => k_is); (case q4 => k_is); (case q5 => k_is); (case q6 => k_is); (case q7 => k_is); (case q8 => k_is))
    (case iI => refine' Lw.IniF.of ?q1 ?q2 ?q3 ?q4 ?q5 ?q6; (case q1 => k_is); (case q2 => k_is); (case q3 => k_is); (case q4 => k_is); (case q5 => k_is); (case q6 => k_is))
    (case e11 => refine' Lw.DefF.of ?q1 ?q2 ?q3 ?q4; (case q1 => k_is); (case q2 => k_is); (case q3 => k_is); (case q4 => k_is))
    (case e12 => refine' Lw.DefF.of ?q1 ?q2 ?q3 ?q4; (case q1 => k_is); (case q2 => k_is); (case q3 => k_is); (case q4 => k_is))
    (case e13 => refine' Lw.DefF.of ?q1 ?q2 ?q3 ?q4; (case q1 => k_is); (case q2 => k_is); (case q3 => k_is); (case q4 => k_is))
    (case e14 => refine' Lw.DefF.of ?q1 ?q2 ?q3 ?q4; (case q1 => k_is); (case q2 => k_is); (case q3 => k_is); (case q4 => k_is))
    (case e15 => refine' Lw.DefF.of ?q1 ?q2 ?q3 ?q4; (case q1 => k_is); (case q2 => k_is); (case q3 => k_is); (case q4 => k_is))
    (case e16 => refine' Lw.DefF.of ?q1 ?q2 ?q3 ?q4; (case q1 => k_is); (case q2 => k_is); (case q3 => k_is); (case q4 => k_is))
    (case e17 => refine' Lw.DefF.of ?q1 ?q2 ?q3 ?q4; (case q1 => k_is); (case q2 => k_is); (case q3 => k_is); (case q4 => k_is))
    (case e18 => refine' Lw.DefF.of ?q1 ?q2 ?q3 ?q4; (case q1 => k_is); (case q2 => k_is); (case q3 => k_is); (case q4 => k_is))
    (case e19 => refine' Lw.DefF.of ?q1 ?q2 ?q3 ?q4; (case q1 => k_is); (case q2 => k_is); (case q3 => k_is); (case q4 => k_is))
    (case e20 => refine' Lw.DefF.of ?q1 ?q2 ?q3 ?q4; (case q1 => k_is); (case q2 => k_is); (case q3 => k_is); (case q4 => k_is))
    (case e21 => refine' Lw.DefF.of ?q1 ?q2 ?q3 ?q4; (case q1 => k_is); (case q2 => k_is); (case q3 => k_is); (case q4 => k_is))
    (case e22 => refine' Lw.DefF.of ?q1 ?q2 ?q3 ?q4; (case q1 => k_is); (case q2 => k_is); (case q3 => k_is); (case q4 => k_is))
    (case e23 => refine' Lw.DefF.of ?q1 ?q2 ?q3 ?q4; (case q1 => k_is); (case q2 => k_is); (case q3 => k_is); (case q4 => k_is))
    (case e24 => refine' Lw.DefF.of ?q1 ?q2 ?q3 ?q4; (case q1 => k_is); (case q2 => k_is); (case q3 => k_is); (case q4 => k_is))
    (case e26 => refine' Lw.DefF.of ?q1 ?q2 ?q3 ?q4; (case q1 => k_is); (case q2 => k_is); (case q3 => k_is); (case q4 => k_is))
    (case e27 => refine' Lw.DefF.of ?q1 ?q2 ?q3 ?q4; (case q1 => k_is); (case q2 => k_is); (case q3 => k_is); (case q4 => k_is))
    (case e28 => refine' Lw.DefF.of ?q1 ?q2 ?q3 ?q4; (case q1 => k_is); (case q2 => k_is); (case q3 => k_is); (case q4 => k_is))
    (case e29 => refine' Lw.DefF.of ?q1 ?q2 ?q3 ?q4; (case q1 => k_is); (case q2 => k_is); (case q3 => k_is); (case q4 => k_is))
    (case e30 => refine' Lw.DefF.of ?q1 ?q2 ?q3 ?q4; (case q1 => k_is); (case q2 => k_is); (case q3 => k_is); (case q4 => k_is))
    (case e31 => refine' Lw.DefF.of ?q1 ?q2 ?q3 ?q4; (case q1 => k_is); (case q2 => k_is); (case q3 => k_is); (case q4 => k_is))
    (case e32 => refine' Lw.DefF.of ?q1 ?q2 ?q3 ?q4; (case q1 => k_is); (case q2 => k_is); (case q3 => k_is); (case q4 => k_is))
    (case e33 => refine' Lw.DefF.of ?q1 ?q2 ?q3 ?q4; (case q1 => k_is); (case q2 => k_is); (case q3 => k_is); (case q4 => k_is))
    (case e34 => refine' Lw.DefF.of ?q1 ?q2 ?q3 ?q4; (case q1 => k_is); (case q2 => k_is); (case q3 => k_is); (case q4 => k_is))
    (case e35 => refine' Lw.DefF.of ?q1 ?q2 ?q3 ?q4; (case q1 => k_is); (case q2 => k_is); (case q3 => k_is); (case q4 => k_is))
    (case e36 => refine' Lw.DefF.of ?q1 ?q2 ?q3 ?q4; (case q1 => k_is); (case q2 => k_is); (case q3 => k_is); (case q4 => k_is))
    (case e37 => refine' Lw.DefF.of ?q1 ?q2 ?q3 ?q4; (case q1 => k_is); (case q2 => k_is); (case q3 => k_is); (case q4 => k_is))
    (case e38 => refine' Lw.DefF.of ?q1 ?q2 ?q3 ?q4; (case q1 => k_is); (case q2 => k_is); (case q3 => k_is); (case q4 => k_is))
    (case lit0 => k_is)
    (case lit1 => k_is)
    (case lit2 => k_is)
    (case lit3 => k_is)
    (case lit4 => k_is)
    (case lit5 => k_is)
    (case blt0 => k_is)
    (case blt1 => k_is)
    (case blt2 => k_is)
    (case blt3 => k_is)
    (case blt4 => k_is)
    (case blt5 => k_is)
    (case blt6 => k_is)
    (case blt7 => k_is)
    (case blt8 => k_is)
    (case blt9 => k_is)
    (case blt10 => k_is)
    (case blt11 => k_is)
    (case blt12 => k_is)
    (case blt13 => k_is)
    (case blt14 => k_is)
    (case blt15 => k_is)
    (case hn => k_is)
    (case ht => k_is)
