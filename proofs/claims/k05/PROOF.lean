import PyProof.Rows.All
import Wide.All
import OpenK.AllK
import Wide.FinOn
import HandS.ForMost
import HandS.ForExc
import HandS.ExcInit
import HandS.ExcIs
import HandS.ExcField
import HandS.ExcValue
import HandS.IsInst
import HandS.Evl
import HandS.Wide
import HandS.WideMore
import PySem.Challenge.RW_likeholes_k05_error_classes
set_option Elab.async false
set_option linter.all false
set_option maxRecDepth 100000
set_option maxHeartbeats 4000000
/-! exceptions of own classes as values: made, asked by isinstance, their fields read -/
namespace ExV
open PySem PySem.W PySem.Calls PyProof.Rows
section
variable {prog : Program} {w : World} {A : Around} {E : Value → Shared → Prop} {K : Frag} {x D : Addr} {ox : Obj} {od : Option Obj}
theorem class_found (c : L2.ExcC K D) : findObj K D od "__class__" = some (.bind (.builtin "getset_descriptor.__get__") (.builtin "object.__class__")) := by
  obtain ⟨cd, hc, _⟩ := any_some c.hd
  have a1 := c.ha
  have a2 := c.hn
  have a3 := c.ht
  simp [findObj, hc, a1, a2, a3]
theorem class_asked {s : Shared} {Q : Option Value → Shared → Prop} (c : L2.ExcC K D) (kin : K.In s.heap) (inst : InstAt s.heap x ox D od) (q : Q (some (.ref D)) { s with toks := s.toks + 1 }) :
    wpAny (model prog w) A (getAttr? (.ref x) "__class__") Q E s := by
  have fo := class_found (od := od) c
  obtain ⟨hh, gg, dd, tt, oo⟩ := s
  have lt := inst.type (M := model prog w)
  have lga := looks_findIn (M := model prog w) kin c.hg
  have lgt := looks_findIn (M := model prog w) kin c.hk
  have lfo := looks_find (M := model prog w) kin inst fo
  have lsub : Looks (model prog w) hh (isInstance (.ref x) (.type "BaseException")) true := lt.andThen (looks_subIn kin c.hs)
  have b0 : (false && onTheHeap (Value.builtin "BaseException.__getattribute__")) = false := rfl
  have b1 : (onTheHeap (Value.ref D) && Value.builtin "BaseException.__getattribute__" == Value.builtin "object.__getattribute__") = false := by
    have z : (Value.builtin "BaseException.__getattribute__" == Value.builtin "object.__getattribute__") = false := by decide +kernel
    rw [z]
    rfl
  unfold getAttr? getAttrBy? getAttrBy
  refine wpAny_bind (wpAny_mkText (wpAny_bind (wpAny_attempt (wpAny_holding (wpAny_bind (lt.at (wpAny_bind (lga.at ?_))))))))
  show wpAny _ _ (if (onTheHeap (Value.ref D) && Value.builtin "BaseException.__getattribute__" == Value.builtin "object.__getattribute__") = true then _ else _) _ _ _
  rw [b1, if_neg Bool.false_ne_true]
  unfold getAttrByItsOwn hookBefore
  refine wpAny_bind ?_
  rw [if_pos (show onTheHeap (Value.ref D) = true from rfl)]
  refine lgt.at (wpAny_bind (wpAny_attempt (wpAny_holding ?_)))
  unfold callGetattribute
  rw [b0, if_neg Bool.false_ne_true]
  unfold boundAndCalled
  rw [PySem.F.excAttr_ValueError.ga.bind (.ref x)]
  refine wpAny_bind (wpAny_pure ?_)
  show wpAny _ _ (call (.builtin "BaseException.__getattribute__") [.ref x, .str "__class__" tt]) _ _ _
  refine wpAny_call (codeAny_call_builtin PySem.F.excAttr_ValueError.ga.plain PySem.F.entry_bexc_ga ?_)
  refine @check_slot (model prog w) _ _ ⟨hh, gg, dd, tt + 1, oo⟩ "BaseException.__getattribute__" "BaseException" "__getattribute__" (.ref x) [.str "__class__" tt] [] _
    (by decide +kernel) (by decide +kernel) lsub (PySem.F.args_bexc_ga (.ref x) (.str "__class__" tt)) ?_
  unfold Builtin.«object.__getattribute__»
  refine wpAny_bind (wpAny_of_eq (a := ((Value.ref x : Value), [Value.str "__class__" tt])) (by first | rfl | (simp only [slotArgs]; rfl)) ?_)
  refine wpAny_bind (wpAny_pure (wpAny_bind (lt.at (wpAny_bind (lfo.at ?_)))))
  show wpAny _ _ (holding [Value.builtin "object.__class__"] (call (.builtin "getset_descriptor.__get__") [.builtin "object.__class__", .ref x, .ref D]) >>= ret) _ _ _
  refine wpAny_bind (wpAny_holding (wpAny_call (class_get (s := ⟨hh, gg, dd, tt + 1, oo⟩) (ox := ox) (od := od) kin inst c.hm ?_)))
  refine wpAny_pure ?_
  show wpAny _ _ (handedOut (.ref D)) _ _ _
  rw [handedOut_of (v := .ref D) rfl]
  first
    | exact wpAny_pure (wpAny_bind (wpAny_pure (wpAny_pure q)))
    | exact wpAny_pure (wpAny_pure q)
    | exact wpAny_pure q
theorem kit_exc (c : L2.ExcC K D) : KitX K (.ref x) (.ref D) (fun h => InstAt h x ox D od) where
  ty := fun _ _ _ inst => inst.type
  it := fun _ h kin _ => by
    obtain ⟨cd, hc, _⟩ := any_some c.hd
    unfold clsIn at hc
    split at hc
    · rename_i look
      intro A' Q' E' s' k q
      unfold isType loadHead
      exact wpAny_bind (wpAny_loadPart (k _ _ (kin _ _ look)) (wpAny_pure q))
    · cases hc
  ne := fun h tp dd its n sl kin htp => by
    obtain ⟨cd, hc, _⟩ := any_some c.hd
    unfold clsIn at hc
    split at hc
    · rename_i look
      refine Bool.eq_false_iff.mpr fun q => ?_
      have e : D = tp := Value.ref.inj (beq_iff_eq.mp q)
      subst e
      have z := (kin _ _ look).symm.trans htp
      cases z
    · cases hc
  ca := fun kin inst k => class_asked c kin inst k
end
end ExV
set_option Elab.async false
set_option linter.all false
set_option maxRecDepth 100000
set_option maxHeartbeats 4000000
/-! an own exception class over ValueError, called with one keyword -/
namespace ExV
open PySem PySem.W PySem.Calls PyProof.Rows PySem.HandSPX
section
variable {prog : Program} {w : World} {A : Around} {E : Value → Shared → Prop} {R : Result → Shared → Prop} {h : Heap} {g : Array GenState} {d : Drawn} {t : Nat} {os : OsState}
variable {nm qn : Str} {C N : Addr} {bs bm : List Value} {hdct : Bool} {sn : List Str} {sub : List Value} {ab : Bool} {col : Option Bool} {dd : Option Addr} {k0 k1 k2 k3 k5 : Option Value}
variable (bT : ∀ T : String, bm.contains (.type T) = [Value.type "ValueError", .type "Exception", .type "BaseException", .type "object"].contains (.type T))
include bT
theorem kw_new_check {M : Model} {kw : List (Str × Value)} {Q : Unit → Shared → Prop} (hC : h.get? C = some (excClassObj nm qn C N bs bm hdct sn sub ab col dd k0 k1 k2 k3 k5 "ValueError.__new__"))
    (q : Q () ⟨h, g, d, t, os⟩) : wpAny M A (checkBuiltinCall "ValueError.__new__" ⟨[.ref C], kw⟩) Q E ⟨h, g, d, t, os⟩ := by
  have F := PySem.F.excBase_ValueError
  have inB : (Value.ref C :: bm).contains (.type "ValueError") = true := by rw [List.contains_cons, bT, F.hasB, Bool.or_true]
  have star := F.noStar
  simp only [checkBuiltinCall, F.newKind, F.newSplit, F.newRow]
  repeat (first | refine wpAny_loadPart_at hC ?_ | (refine wpAny_isSubtype_exc hC ?_; rw [inB]) | refine wpAny_staticBase_exc hC ?_ | refine wpAny_madeBy_exc hC ?_ | simp only [bne_self_eq_false, Bool.false_eq_true, if_false] | wp_step)
  exact q
theorem kw_new {kw : List (Str × Value)} (hC : h.get? C = some (excClassObj nm qn C N bs bm hdct sn sub ab col dd k0 k1 k2 k3 k5 "ValueError.__new__"))
    (q : R (.ok (.ret (.ref (h.objs.size + 1)))) ⟨(h.push (kdv_tup [])).push (excO C h.objs.size), g, d, t, os⟩) :
    codeAny (model prog w) A (.builtin "ValueError.__new__" ⟨[.ref C], kw⟩) R ⟨h, g, d, t, os⟩ := by
  have F := PySem.F.excBase_ValueError
  have ends := F.ends
  have inB : (Value.ref C :: bm).contains (.type "ValueError") = true := by rw [List.contains_cons, bT, F.hasB, Bool.or_true]
  have noA : (Value.ref C :: bm).contains (.type "AttributeError") = false := by rw [List.contains_cons, bT, F.noAttr]; rfl
  have noN : (Value.ref C :: bm).contains (.type "NameError") = false := by rw [List.contains_cons, bT, F.noName]; rfl
  refine codeAny_builtinAt F.entry ?_
  unfold Builtin.«BaseException.__new__»
  refine PySem.wpAt_bind ?_
  show PySem.wpAt _ _ _ (stack >>= _) _ _ _
  refine PySem.wpAt_bind (PySem.wpAt_stack fun p below => PySem.wpAt_of_wpAny ?_)
  wp_walk
  refine PySem.wpAt_of_wpAny ?_
  rw [F.owner]
  repeat (first | with_reducible refine wpAny_madeHere_exc F.canon hC ?_ | with_reducible refine wpAny_loadPart_at hC ?_ | (with_reducible refine wpAny_isSubtype_exc hC ?_; first | rw [inB] | rw [noA] | rw [noN]) | wp_step)
  show R _ _
  rw [Heap.size_push]
  exact q
theorem kw_type_call {kw : List (Str × Value)} {fI : Addr} {Q : Fin → Shared → Prop} (hC : h.get? C = some (excClassObj nm qn C N bs bm hdct sn sub ab col dd k0 k1 k2 k3 k5 "ValueError.__new__"))
    (li : Looks (model prog w) h (typeLookup (.ref C) "__init__") (some (.ref fI))) (lb : ∀ self, Looks (model prog w) h (bindSpecial (.ref fI) self) (.ref fI, [self]))
    (q : codeAny (model prog w) A (.call (.ref fI) ⟨[.ref (h.objs.size + 1)], kw⟩)
      (fun r s' => match r with | .ok (.ret v) => v = .none ∧ Q (.done (.ret (.ref (h.objs.size + 1)))) s' | .ok _ => False | .error e => E e s')
      ⟨(h.push (kdv_tup [])).push (excO C h.objs.size), g, d, t, os⟩) :
    wpAny (model prog w) A (Builtin.«type.__call__» ⟨[.ref C], kw⟩) Q E ⟨h, g, d, t, os⟩ := by
  have F := PySem.F.excBase_ValueError
  repeat (first | with_reducible refine wpAny_loadPart_at hC ?_ | with_reducible refine wpAny_madeBy_exc hC ?_ | wp_step)
  refine codeAny_call_builtin_code (Code.quiet_builtin _ F.quiet) (kw_new_check bT hC ?_)
  refine kw_new bT hC ?_
  show wpAny _ _ _ _ _ _
  have kp : ∀ b o, h.get? b = some o → ((h.push (kdv_tup [])).push (excO C h.objs.size)).get? b = some o := fun b o e => Heap.get?_push_of_some _ (Heap.get?_push_of_some _ e)
  have atC := kp _ _ hC
  have atE : ((h.push (kdv_tup [])).push (excO C h.objs.size)).get? (h.objs.size + 1) = some (excO C h.objs.size) := by heap_get
  have inC : (Value.ref C :: bm).contains (.ref C) = true := by simp
  have li1 := li.keeps kp
  have lb1 := (lb (.ref (h.objs.size + 1))).keeps kp
  unfold isInstance
  repeat (first | with_reducible refine wpAny_loadPart_at atE ?_ | (with_reducible refine wpAny_isSubtype_exc atC ?_; rw [inC]) | wp_step)
  show wpAny _ _ (typeLookup (.ref C) _) _ _ _
  refine li1.at (wpAny_holding (wpAny_bind (lb1.at ?_)))
  refine wpAny_bind (wpAny_call (codeAny_mono q fun r s' z => ?_))
  rcases r with e | (v | _ | _ | _) <;> first | exact z | exact z.elim | skip
  obtain ⟨rfl, z⟩ := z
  first
    | exact wpAny_pure (wpAny_pure z)
    | (wp_walk; exact z)
theorem kw_call {kw : List (Str × Value)} {fI : Addr} (hC : h.get? C = some (excClassObj nm qn C N bs bm hdct sn sub ab col dd k0 k1 k2 k3 k5 "ValueError.__new__"))
    (li : Looks (model prog w) h (typeLookup (.ref C) "__init__") (some (.ref fI))) (lb : ∀ self, Looks (model prog w) h (bindSpecial (.ref fI) self) (.ref fI, [self]))
    (q : codeAny (model prog w) (A.under (.builtin "type.__call__" ⟨[.ref C], kw⟩)) (.call (.ref fI) ⟨[.ref (h.objs.size + 1)], kw⟩) (InitBack (h.objs.size + 1) R)
      ⟨(h.push (kdv_tup [])).push (excO C h.objs.size), g, d, t, os⟩) :
    codeAny (model prog w) A (.call (.ref C) ⟨[], kw⟩) R ⟨h, g, d, t, os⟩ := by
  have f1 := tc_lookup
  have f2 := tc_bind (.ref C)
  have isT : (⟨h, g, d, t, os⟩ : Shared).TypeIs (.ref C) "type" := ⟨_, hC, rfl⟩
  refine codeAny_of_tree ?_
  show wpAny _ _ (callAny (.ref C) _) _ _ _
  repeat (any_goals (first | assumption | with_reducible refine wpAny_loadPart_at hC ?_ | wp_step))
  refine ⟨rfl, ?_⟩
  refine codeAny_call_builtin_at (Code.quiet_builtin _ (by decide +kernel)) entry_typeCall (wpAny_check_type_call_sub hC (kw_type_call bT hC li lb ?_))
  refine codeAny_mono q fun r s' z => ?_
  rcases r with e | (v | _ | _ | _) <;> exact z
end
end ExV
set_option Elab.async false
set_option linter.all false
set_option maxRecDepth 100000
set_option maxHeartbeats 4000000
/-! the same over the layer: an exception is tracked as exo (its dict as exd) -/
namespace ExV
open PySem PySem.Spec PyProof.Rows L2
abbrev Ext (H H' : Hp) : Prop := Evl.Ex H H'
/-- an exception object of the class at D, with its fields -/
def Exc (H : Hp) (a D : Addr) (fs : Option (List (Str × V))) : Prop := match fs with
  | none => H a = some (exo a D none)
  | some fs => ∃ d, H a = some (exo a D (some d)) ∧ H d = some (exd d fs)
theorem Exc.mono {H H' : Hp} {a D : Addr} {fs : Option (List (Str × V))} (e : Ext H H') (h : Exc H a D fs) : Exc H' a D fs := by
  cases fs with
  | none => exact e _ _ h
  | some fs =>
    obtain ⟨d, h1, h2⟩ := h
    exact ⟨d, e _ _ h1, e _ _ h2⟩
section
variable {X : Cx} {pins : List (Addr × Obj)} {σ : L2.St} {H : Hp} {s : Shared} {a D C fI : Addr} {fs : Option (List (Str × V))} {f x : Str} {e : Expr} {te : TE} {ta : TA} {p pos kpos : Pos}
theorem Exc.inst (I : Inv X pins σ H s) (h : Exc H a D fs) : ∃ ox od, PySem.W.InstAt s.heap a ox D od := by
  cases fs with
  | none =>
    obtain ⟨t1, ho⟩ := exo_at I.hok (show H a = some (exo a D none) from h)
    exact ⟨_, none, ho, rfl, rfl, True.intro⟩
  | some fs =>
    obtain ⟨d, h1, h2⟩ := h
    obtain ⟨t1, ho⟩ := exo_at I.hok h1
    obtain ⟨mA, ⟨o, es, ep, hn, _⟩, _⟩ := exd_at I.hok h2
    exact ⟨_, some o, ho, rfl, rfl, hn⟩
/-- isinstance(e, c), e a tracked exception -/
def rIsX (K : PySem.W.Frag) : List V → Hp → VK → Prop := fun xs H Q => ∃ (a D : Addr) (fs : Option (List (Str × V))) (c : V) (cv : Value) (b : Bool),
  xs = [.ref a, c] ∧ ExcC K D ∧ Exc H a D fs ∧ ClsV c cv ∧ PySem.W.kitOne K (.ref D) cv = some b ∧ Q (.bl b) H
theorem call_isX : CallR X (.builtin "isinstance") (rIsX X.K) := by
  intro pins s σ H xs us Q I r h
  obtain ⟨a, D, fs, c, cv, b, rfl, cc, hx, k, e, q⟩ := h
  obtain ⟨u1, u2, rfl, r1, r2⟩ := vals2 r
  cases r1
  have e2 := k.eq r2
  subst e2
  obtain ⟨ox, od, J⟩ := hx.inst I
  exact PySem.W.kia_one (kit_exc cc) I.kIn J e (fun z => nomatch z) fun tk => ⟨.bl b, H, I.tok tk, rfl, q⟩
/-- e.f, a field of a tracked exception -/
def tXF (K : PySem.W.Frag) (f : Str) (te : TE) : TE := fun σ H Q => te σ H fun x H1 => ∃ (a C : Addr) (fs : List (Str × V)) (v : V),
  x = .ref a ∧ XfC K C ∧ PySem.W.findIn K (.ref C) f = some none ∧ Exc H1 a C (some fs) ∧ fs.lookup f = some v ∧ Q v H1
theorem pe_xfv (he : PE X e te) (hb : attributeBase e f X.env (eval e X.env) = eval e X.env := by rfl) : PE X (.Attribute e f pos) (tXF X.K f te) := by
  refine ⟨fun pins s σ H Q I h => ?_⟩
  refine attr_of hb (thn (he.run pins s σ H _ I h) fun u s1 ⟨x, H1, I1, rx, a, C, fs, v, ex, T, hno, ⟨d, h1, h2⟩, l, q⟩ => ?_)
  subst ex
  obtain rfl : u = Value.ref a := rx
  obtain ⟨t1, ho⟩ := exo_at I1.hok h1
  obtain ⟨mA, hns, hr⟩ := exd_at I1.hok h2
  obtain ⟨od, hod, hl⟩ := lookIn_ns hns
  obtain ⟨u, hu, ru⟩ := RelO.some_of (v := v) (o := mA f) (by rw [← l]; exact hr f)
  have J : PySem.W.InstAt s1.heap a _ C (some od) := ⟨ho, rfl, rfl, hod⟩
  exact HandSPX.exc_get I1.kIn J T.ga T.gg T.exC (PySem.W.findObj_own T.hdC hno rfl (by rw [hl, hu])) (handed_of ru) ⟨v, H1, I1.tok _, ru, q⟩
/-- C() and C(e), C without an __init__ of its own -/
theorem exc_made {us : List Value} {Q : VK} (I : Inv X pins σ H s) (q : PySem.W.excIn X.K C [.type "ValueError", .type "Exception", .type "BaseException", .type "object"] "ValueError.__new__" = true) (hl : us.length ≤ sizeLine)
    (h : ∀ a, H a = none → Q (.ref a) (upd H a (exo a C none))) : wpAny (model X.prog X.w) X.A (call (.ref C) us) (EP X pins σ Q) X.xe s := by
  obtain ⟨bm, N, nm, qn, bs, hdct, sn, sub, ab, col, dd, k0, k1, k2, k3, k5, mN, hC, hN, hni, T⟩ := exc_obj I.kIn q
  refine wpAny_call_exc_subT PySem.F.excBase_ValueError T hC hN hni (fun h' a hm => ?_) hl
  have hn : H a = none := I.hok.gone hm.new
  obtain ⟨t, ht, _, _⟩ := hm.there
  exact ⟨.ref a, upd H a (exo a C none), I.laidN hm.keeps hm.new hn (exo_ok ht), rfl, h a hn⟩
def tMk0 (C : Addr) (ta : TA) : TE := fun σ H Q => ta σ H fun vs H1 => vs.length ≤ 1000 ∧ ∀ a, H1 a = none → Q (.ref a) (upd H1 a (exo a C none))
theorem pe_mk1 (q : PySem.W.excIn X.K C [.type "ValueError", .type "Exception", .type "BaseException", .type "object"] "ValueError.__new__" = true) (gC : X.mg x = some (.ref C)) (kC : PySem.W.keepIn X.K (.ref C) = true) (hg : Gl X x)
    (ha : PA X [e] ta) (hs : starEach [e] X.env = (false, eval e X.env) :: starEach [] X.env := by rfl) (hdb : (x == ("__debug__" : Str)) = false := by decide) :
    PE X (.Call (.Name x p) [e] [] pos) (tMk0 C ta) := by
  refine ⟨fun pins s σ H Q I h => ?_⟩
  refine wpAny_Call_Name_kw (ld_glob I hg gC ?_ hdb)
  refine PySem.W.callWith_K (h₀ := X.base) I.ok.mod.kin kC (thn (ha.run pos pins s σ H _ I h) fun us s1 ⟨vs, H1, I1, r1, hz, q1⟩ => ⟨I1.kIn, ?_⟩) hs (by rfl)
  exact exc_made I1 q (by rw [List.nil_append, ← r1.length, sizeLine_eq]; omega) q1
theorem pe_mk0 (q : PySem.W.excIn X.K C [.type "ValueError", .type "Exception", .type "BaseException", .type "object"] "ValueError.__new__" = true) (gC : X.mg x = some (.ref C)) (kC : PySem.W.keepIn X.K (.ref C) = true) (hg : Gl X x)
    (hdb : (x == ("__debug__" : Str)) = false := by decide) : PE X (.Call (.Name x p) [] [] pos) (tMk0 C tNil) := by
  refine ⟨fun pins s σ H Q I h => ?_⟩
  refine wpAny_Call_Name_kw (ld_glob I hg gC ?_ hdb)
  exact PySem.W.callWith_K0 I.kIn kC (exc_made (us := []) I q (Nat.zero_le _) h.2)
/-- C(e) and C(f = e), C's __init__ storing its one argument under f -/
def spIni (C : Addr) (f : Str) : Sp := fun vs H Q _ => ∃ (a : Addr) (y : V), vs = [.ref a, y] ∧ H a = some (exo a C none) ∧ ∀ dx, H dx = none → dx ≠ a → Q .non (upd (upd H dx (exd dx [(f, y)])) a (exo a C (some dx)))
/-- what is known of such a class -/
structure IniC (P : Program) (w : World) (K : PySem.W.Frag) (mg : Str → Option Value) (base : Heap) (C fI : Addr) (f : Str) : Prop where
  T : OexC K C
  iC : PySem.W.findIn K (.ref C) "__init__" = some (some (.ref fI))
  tI : PySem.W.typeIn K (.ref fI) = some (.type "function")
  fn : ∃ fd, FnOk P w K mg base CX0 1 fI fd ["self", f] (spIni C f) ∧ (∀ (s : Shared) (u v : Value), BindsTo s fd ⟨[u, v], []⟩ [("self", u), (f, v)]) ∧ (∀ (s : Shared) (u v : Value), BindsTo s fd ⟨[u], [(f, v)]⟩ [("self", u), (f, v)])
def tMkI (C : Addr) (f : Str) (ta : TA) : TE := fun σ H Q => ta σ H fun vs H1 => ∃ y, vs = [y] ∧ ∀ a H2, H1 a = none → Ext H1 H2 → Exc H2 a C (some [(f, y)]) → Q (.ref a) H2
theorem ini_run {us : List Value} {kw : List (Str × Value)} {y : V} {v : Value} {Q : VK} (Z : IniC X.prog X.w X.K X.mg X.base C fI f) (hr : Room 2 X.A) (I : Inv X pins σ H s) (ry : RelV y v)
    (hsh : (us = [v] ∧ kw = []) ∨ (us = [] ∧ kw = [(f, v)])) (q : ∀ a H2, H a = none → Ext H H2 → Exc H2 a C (some [(f, y)]) → Q (.ref a) H2) :
    wpAny (model X.prog X.w) X.A (call (.ref C) us kw) (EP X pins σ Q) X.xe s := by
  obtain ⟨nm, qn, N, bs, bm, sn, sub, ab, col, dd, k0, k1, k2, k3, k5, hC, hbm⟩ := Z.T.cls
  obtain ⟨fd, F1, b1, b2⟩ := Z.fn
  obtain ⟨hp, g, dr, tk, os⟩ := s
  have hn : H (hp.objs.size + 1) = none := I.hok.fresh (Nat.le_succ _)
  have kk : ∀ (T : Obj) b o, hp.get? b = some o → ((hp.push T).push (PySem.HandSPX.excO C hp.objs.size)).get? b = some o := fun T b o z => Heap.get?_push_of_some _ (Heap.get?_push_of_some _ z)
  have sz : ∀ T : Obj, (hp.push T).objs.size = hp.objs.size + 1 := fun T => Heap.size_push _ _
  have hget : ∀ T : Obj, ((hp.push T).push (PySem.HandSPX.excO C hp.objs.size)).get? (hp.objs.size + 1) = some (PySem.HandSPX.excO C hp.objs.size) := fun T => by
    have z := Heap.get?_push_size (hp.push T) (o := PySem.HandSPX.excO C hp.objs.size) rfl
    rw [sz] at z
    exact z
  have I2 : ∀ T : Obj, Inv X pins σ (upd H (hp.objs.size + 1) (exo (hp.objs.size + 1) C none)) ⟨(hp.push T).push (PySem.HandSPX.excO C hp.objs.size), g, dr, tk, os⟩ := fun T =>
    I.laid (t' := tk) (a := hp.objs.size + 1) (o := exo (hp.objs.size + 1) C none) (h' := (hp.push T).push (PySem.HandSPX.excO C hp.objs.size)) (kk T) (Nat.le_succ _) (exo_ok (hget T))
  have hsp : spIni C f [.ref (hp.objs.size + 1), y] (upd H (hp.objs.size + 1) (exo (hp.objs.size + 1) C none)) (fun v H2 => v = .non ∧ Q (.ref (hp.objs.size + 1)) H2) (fun _ _ _ => False) := by
    refine ⟨_, _, rfl, upd_same, fun dx nd ne => ⟨rfl, ?_⟩⟩
    have nd' : H dx = none := by
      rw [upd_ne ne] at nd
      exact nd
    refine q _ _ hn (fun b o z => ?_) ⟨dx, upd_same, ?_⟩
    · rw [upd_ne (ne_of_none z hn), upd_ne (ne_of_none z nd'), upd_ne (ne_of_none z hn)]
      exact z
    · rw [upd_ne ne, upd_same]
  have back : ∀ (T : Obj) r s', CR CX0 X.stack X.prog X.w (upd H (hp.objs.size + 1) (exo (hp.objs.size + 1) C none)) ⟨(hp.push T).push (PySem.HandSPX.excO C hp.objs.size), g, dr, tk, os⟩ (fun v H2 => v = .non ∧ Q (.ref (hp.objs.size + 1)) H2) (fun _ _ _ => False) r s' →
      PySem.W.InitBack (hp.objs.size + 1) (fun r s' => match r with | .ok (.ret u) => EP X pins σ Q u s' | .ok _ => False | .error e => X.xe e s') r s' := fun T r s' z => by
    cases r with
    | error er => exact False.elim z
    | ok fl =>
      cases fl with
      | ret u =>
        obtain ⟨v', H2, J, rv, ev, q2⟩ := (I2 T).after z
        obtain ⟨ev, q2⟩ : v' = .non ∧ Q (.ref (hp.objs.size + 1)) H2 := ⟨ev, q2⟩
        subst ev
        exact ⟨rv, ⟨.ref (hp.objs.size + 1), H2, J, rfl, q2⟩⟩
      | next => exact False.elim z
      | brk => exact False.elim z
      | cont => exact False.elim z
  rcases hsh with ⟨rfl, rfl⟩ | ⟨rfl, rfl⟩
  · refine wpAny_call (codeAny_mono (PySem.HandSPX.call_own (R := fun r s' => match r with | .ok (.ret u) => EP X pins σ Q u s' | .ok _ => False | .error e => X.xe e s') PySem.F.excBase_ValueError (fun Y => PySem.HandSPX.refsVE_contains Y bm hbm) (I.kIn _ _ hC)
      (PySem.W.looks_findIn I.kIn Z.iC) (fun self => PySem.W.bind_fn I.kIn self Z.tI) (by rw [sizeLine_eq]; exact (by decide : 1 ≤ 16777216))
      (codeAny_mono (F1.run _ X.stack _ _ ⟨[Value.ref (hp.objs.size + 1), v], []⟩ [Value.ref (hp.objs.size + 1), v] [V.ref (hp.objs.size + 1), y] _ (fun _ _ _ => False) (hr.make C [v] []) ((I2 _).env0.make C [v] []) (b1 _ _ _) (.cons rfl (.cons ry .nil)) hsp)
        (back _))) fun r s' z => ?_)
    cases r with
    | error er => exact z
    | ok fl => cases fl <;> exact z
  · refine wpAny_call (codeAny_mono (kw_call (R := fun r s' => match r with | .ok (.ret u) => EP X pins σ Q u s' | .ok _ => False | .error e => X.xe e s') (fun Y => PySem.HandSPX.refsVE_contains Y bm hbm) (I.kIn _ _ hC)
      (PySem.W.looks_findIn I.kIn Z.iC) (fun self => PySem.W.bind_fn I.kIn self Z.tI)
      (codeAny_mono (F1.run _ X.stack _ _ ⟨[Value.ref (hp.objs.size + 1)], [(f, v)]⟩ [Value.ref (hp.objs.size + 1), v] [V.ref (hp.objs.size + 1), y] _ (fun _ _ _ => False) (hr.make C [] [(f, v)]) ((I2 _).env0.make C [] [(f, v)]) (b2 _ _ _) (.cons rfl (.cons ry .nil)) hsp)
        (back _))) fun r s' z => ?_)
    cases r with
    | error er => exact z
    | ok fl => cases fl <;> exact z
theorem pe_mkI (Z : IniC X.prog X.w X.K X.mg X.base C fI f) (hr : Room 2 X.A) (gC : X.mg x = some (.ref C)) (hg : Gl X x)
    (ha : PA X [e] ta) (hs : starEach [e] X.env = (false, eval e X.env) :: starEach [] X.env := by rfl) (hdb : (x == ("__debug__" : Str)) = false := by decide) :
    PE X (.Call (.Name x p) [e] [] pos) (tMkI C f ta) := by
  refine ⟨fun pins s σ H Q I h => ?_⟩
  refine wpAny_Call_Name_kw (ld_glob I hg gC ?_ hdb)
  refine PySem.W.callWith_K (h₀ := X.base) I.ok.mod.kin Z.T.kC (thn (ha.run pos pins s σ H _ I h) fun us s1 ⟨vs, H1, I1, r1, y, ev, q1⟩ => ⟨I1.kIn, ?_⟩) hs (by rfl)
  subst ev
  obtain ⟨u, rfl, ru⟩ := vals1 r1
  exact ini_run Z hr I1 ru (.inl ⟨rfl, rfl⟩) q1
theorem pe_mkK (Z : IniC X.prog X.w X.K X.mg X.base C fI f) (hr : Room 2 X.A) (gC : X.mg x = some (.ref C)) (hg : Gl X x) (he : PE X e te)
    (hall : (backToKw pos (keywordEach [⟨some f, e, kpos⟩] X.env)).all (·.1.isSome) = true := by rfl) (hks : (backToKw pos (keywordEach [⟨some f, e, kpos⟩] X.env)).filterMap (·.1) = [f] := by rfl) (hdb : (x == ("__debug__" : Str)) = false := by decide)
    (hpl : ((backTo pos (starEach [] X.env)).any (·.1) || (backToKw pos (keywordEach [⟨some f, e, kpos⟩] X.env)).any (·.1.isNone)) = false := by rfl) :
    PE X (.Call (.Name x p) [] [⟨some f, e, kpos⟩] pos) (tMkI C f (tCons te tNil)) := by
  refine ⟨fun pins s σ H Q I h => ?_⟩
  refine wpAny_Call_Name_kw (ld_glob I hg gC ?_ hdb)
  refine PySem.W.callWith_KW0 (h₀ := X.base) I.ok.mod.kin Z.T.kC hall ?_ hpl
  refine thn ((pk_cons (nm := some f) (kpos := kpos) he pk_nil).run pos pins s σ H _ I h) fun ws s2 ⟨zs, H2, I2, rz, y, ev, q2⟩ => ⟨I2.kIn, ?_⟩
  subst ev
  obtain ⟨u, rfl, ru⟩ := vals1 rz
  rw [hks]
  exact ini_run Z hr I2 ru (.inr ⟨rfl, rfl⟩) q2
end
end ExV
set_option Elab.async false
set_option linter.all false
set_option maxRecDepth 100000
set_option maxHeartbeats 4000000
/-! what the laws' helpers share: powers, lists of ints as data, heaps but for two addresses -/
namespace Lw
open PySem PySem.Spec PyProof.Rows L2
abbrev Ex := @Evl.Ex
theorem op_powB {X : Cx} : OpR X (binaryOp .Pow) (rI (fun i j => 0 ≤ j ∧ (Builtin.Int.intBits i : Int) * j ≤ 2 ^ 27) fun i j => .int (i ^ j.toNat)) := opI fun _ _ _ _ _ _ _ hc q => pow_int hc.1 hc.2 q
/-- cells: what the script is made into -/
def cellMax : Int := (10 ^ 60) ^ 20
def Cells (ns : List Int) : Prop := ns ≠ [] ∧ ns.length ≤ 63 ∧ ∀ n ∈ ns, -cellMax < n ∧ n < cellMax
/-- the source at S.1, its cells at S.2, turned t times -/
structure Src (H : Hp) (S : Addr × Addr) (t : Nat) : Prop where
  ne : S.1 ≠ S.2
  at1 : H S.1 = some (.lst [.ref S.2, .int (t : Int)])
  at2 : ∃ ns : List Int, Cells ns ∧ H S.2 = some (.lst (ns.map V.int))
/-- all that was tracked stands as it stood, but for the source -/
def But (S : Addr × Addr) (H H' : Hp) : Prop := ∀ b o, b ≠ S.1 → b ≠ S.2 → H b = some o → H' b = some o
theorem But.refl (S : Addr × Addr) (H : Hp) : But S H H := fun _ _ _ _ h => h
theorem But.trans {S : Addr × Addr} {H H1 H2 : Hp} (a : But S H H1) (b : But S H1 H2) : But S H H2 := fun c o h1 h2 h => b c o h1 h2 (a c o h1 h2 h)
theorem But.of {S : Addr × Addr} {H H' : Hp} (e : Ex H H') : But S H H' := fun b o _ _ h => e b o h
theorem Src.mono {H H' : Hp} {S : Addr × Addr} {t : Nat} (e : Ex H H') (h : Src H S t) : Src H' S t := by
  obtain ⟨ne, h1, ns, hc, h2⟩ := h
  exact ⟨ne, e _ _ h1, ns, hc, e _ _ h2⟩
theorem dpInts {K : PySem.W.Frag} {H : Hp} : ∀ ns : List Int, DpAll K H (ns.map V.int) (ns.map PyData.int)
  | [] => .nil
  | n :: ns => .cons (.int n) (dpInts ns)
theorem layInts : ∀ ns : List Int, PyData.canLayAll0 (ns.map PyData.int) = true
  | [] => by simp [PyData.canLayAll0]
  | n :: ns => by simp [PyData.canLayAll0, PyData.canLay0, layInts ns]
theorem depthInts : ∀ ns : List Int, PyData.depthAll (ns.map PyData.int) ≤ 1
  | [] => by simp [PyData.depthAll]
  | n :: ns => by
    have h := depthInts ns
    simp only [List.map_cons, PyData.depthAll, PyData.depth]
    omega
theorem shapedInts (ns : List Int) : SeqAt.shaped (.list (ns.map PyData.int)) = true := by
  unfold SeqAt.shaped
  rw [Bool.and_eq_true]
  refine ⟨by simp only [PyData.canLay0]; exact layInts ns, decide_eq_true ?_⟩
  have h := depthInts ns
  simp only [PyData.depth]
  omega
theorem eqvNil (ns : List Int) : PyData.eqv (.list (ns.map PyData.int)) (.list []) = ns.isEmpty := by
  cases ns <;> simp [PyData.eqv, PyData.eqvAll]
theorem bits60 : (Builtin.Int.intBits (10 ^ 60) : Int) * 20 ≤ 2 ^ 27 := by decide +kernel
theorem cellPos : 0 < cellMax := by decide +kernel
theorem cellBits : cellMax.natAbs < 2 ^ 4000 := by decide +kernel
end Lw
set_option Elab.async false
set_option linter.all false
set_option maxRecDepth 100000
set_option maxHeartbeats 4000000
/-! the source of draws -/
namespace Lw
open PySem PySem.Spec PyProof.Rows L2
def topS (i : Nat) : Stmt := PySem.Challenge.pw_likeholes_k05_error_classes.main.body.getD i (.Pass ⟨0, 0, 0, 0⟩)
abbrev sSource : Stmt := topS 16
abbrev sDraw : Stmt := topS 17
abbrev sPick : Stmt := topS 18
theorem scSource : FnScope ["_law_script", "_law_cells", "_law_k"] ["_law_script"] (defScope sSource) := ⟨rfl, rfl, rfl, by decide +kernel, rfl, by decide +kernel, by decide +kernel⟩
theorem scDraw : FnScope ["_law_source_here", "_law_limit", "_law_cells", "_law_turn", "_law_at", "_law_cell", "_law_number", "_law_other"] ["_law_source_here", "_law_limit"] (defScope sDraw) := ⟨rfl, rfl, rfl, by decide +kernel, rfl, by decide +kernel, by decide +kernel⟩
theorem scPick : FnScope ["_law_source_here", "_law_values"] ["_law_source_here", "_law_values"] (defScope sPick) := ⟨rfl, rfl, rfl, by decide +kernel, rfl, by decide +kernel, by decide +kernel⟩
section
variable {P : Program} {w : World} {K : PySem.W.Frag} {mg : Str → Option Value} {base : Heap}
/-- the script's cells as a new source, not turned -/
def spSource (K : PySem.W.Frag) : Sp := fun vs H Q _ => ∃ (a : Addr) (ns : List Int), vs = [.ref a] ∧ SqL K H a (ns.map V.int) ∧ ns.length ≤ 63 ∧
  ∀ H' S, Ex H H' → H S.1 = none → H S.2 = none → Src H' S 0 → Q (.ref S.1) H'
theorem cut63 (xs : List V) (h : xs.length ≤ 63) : cutV xs none (some 63) = xs := by
  have e : HT.sIx xs.length xs.length (some 63) = min 63 xs.length := HT.sIx_nat xs.length xs.length 63
  unfold cutV
  rw [e, HT.sIx_none, List.drop_zero, Nat.sub_zero, Nat.min_eq_right h]
  exact List.take_length
theorem cellMod (n : Int) : 0 ≤ n % cellMax ∧ n % cellMax < cellMax := ⟨Int.emod_nonneg n (by have := cellPos; omega), Int.emod_lt_of_pos n cellPos⟩
theorem big18 : (10 : Int) ^ 18 < cellMax := by decide +kernel
theorem ok_source {f : Addr} {fd : FuncData} (F : Fun K "_law_source" "_law_source" sSource f fd) (mr : mg "range" = none) (ml : mg "len" = none) (ma : mg "abs" = none) :
    FnOk P w K mg base CX0 1 f fd ["_law_script"] (spSource K) := by
  refine F.ok scSource (fun vs H Q E h => ?_) (fun cdv A outer s H vs Q E hr h => ?_)
  · obtain ⟨a, ns, rfl, _⟩ := h
    rfl
  · obtain ⟨a, ns, rfl, hS, hlen, q⟩ := h
    have nd := scSource.nd
    have hu := hu_of hr
    refine ⟨_, pss_cons (ps_set (i := 1) nd rfl (.inl rfl) (pe_slice sl_list (pv 0) po_none (po_some pe_int)))
      (pss_cons (ps_for PassesOwn.never rfl (pi_range1 (by rfl) mr (pa_cons (pe_callB call_len_seq (by rfl) ml PySem.boot_len (pa_cons (pv 1) pa_nil)) pa_nil)) (pg_name (i := 2) nd rfl (.inl rfl))
        (pss_one (ps_if (pt_cmpR op_ge (pe_callB call_abs (by rfl) ma (by decide +kernel) (pa_cons (pe_ix ix_list (pv 1) (pv 2) (fun _ _ => rfl)) pa_nil)) (pe_op op_powB pe_int pe_int) (nomark _))
          (pss_one (ps_asg (pe_op op_mod (pe_ix ix_list (pv 1) (pv 2) (fun _ _ => rfl)) (pe_op op_powB (pe_op op_powB pe_int pe_int) pe_int)) (pg_sub (pv 1) (pv 2) set_list))) pss_nil)))
      (pss_cons (ps_if (pt_cmpR (op_eqD hr.units) (pv 1) (pe_lst pa_nil) (nomark _)) (pss_one (ps_set (i := 1) nd rfl (.inl rfl) (pe_lst (pa_cons pe_int pa_nil)))) pss_nil)
      (pss_one (ps_ret (pe_lst (pa_cons (pv 1) (pa_cons pe_int pa_nil))))))), ?_⟩
    have e63 : cutV (ns.map V.int) none (some 63) = ns.map V.int := cut63 _ (by rw [List.length_map]; exact hlen)
    refine Evl.q_asgL (Evl.el_sl (Evl.ev_var rfl) Evl.eo_none (Evl.eo_some Evl.ev_c) hS) fun c H1 hc e1 h1 => ?_
    rw [e63] at h1
    -- the loop
    refine Evl.q_forR1 (n := (ns.length : Int)) (Evl.ea_cons (by
        have z := Evl.ev_len (K := K) (xs := ns.map V.int) (σ := (start ["_law_script", "_law_cells", "_law_k"] [V.ref a]).set 1 (some (.ref c))) (ta := tVar 1) (p := c) (Evl.ev_var rfl) (Evl.sq_of h1)
        rw [List.length_map] at z
        exact z) Evl.ea_nil) ⟨by omega, by omega⟩
      (fun i σ' H' => ∃ (ms : List Int) (y : Option V), σ' = [some (.ref a), some (.ref c), y] ∧ Ex H H' ∧ H' c = some (.lst (ms.map V.int)) ∧ ms.length = ns.length ∧ ∀ j m, j < i → ms[j]? = some m → -cellMax < m ∧ m < cellMax)
      (fun H2 e2 => ⟨ns, none, rfl, Evl.Ex.trans e1 e2, e2 _ _ h1, rfl, fun j m hj => absurd hj (Nat.not_lt_zero j)⟩) (fun i σ' H' hi hP => ?_) (fun σ' H' hP => ?_)
    · obtain ⟨ms, y, rfl, e2, h2, hl, hb⟩ := hP
      have hi' : i < ms.length := by omega
      obtain ⟨m, hm⟩ : ∃ m, ms[i]? = some m := ⟨_, List.getElem?_eq_getElem hi'⟩
      have gm : (ms.map V.int)[i]? = some (.int m) := by
        rw [List.getElem?_map, hm]
        rfl
      have evAt : ∀ H3, Ex H' H3 → Evl.Ev (tOp (rIxL K) (tVar 1) (tVar 2)) [some (.ref a), some (.ref c), some (.int (i : Int))] H3 (.int m) := fun H3 e3 =>
        Evl.ev_op (Evl.ev_var rfl) (Evl.ev_var rfl) (Evl.rv_ixL (Evl.sq_of (e3 _ _ h2)) (atI_nat gm))
      have ev18 : ∀ H3, Evl.Ev (tOp (rI (fun i j => 0 ≤ j ∧ (Builtin.Int.intBits i : Int) * j ≤ 2 ^ 27) fun i j => .int (i ^ j.toNat)) (tC (.int 10)) (tC (.int 18))) [some (.ref a), some (.ref c), some (.int (i : Int))] H3 (.int (10 ^ 18)) := fun H3 =>
        Evl.ev_op Evl.ev_c Evl.ev_c (Evl.rv_I (by decide +kernel))
      have evBig : ∀ H3, Evl.Ev (tOp (rI (fun i j => 0 ≤ j ∧ (Builtin.Int.intBits i : Int) * j ≤ 2 ^ 27) fun i j => .int (i ^ j.toNat)) (tOp (rI (fun i j => 0 ≤ j ∧ (Builtin.Int.intBits i : Int) * j ≤ 2 ^ 27) fun i j => .int (i ^ j.toNat)) (tC (.int 10)) (tC (.int 60))) (tC (.int 20)))
          [some (.ref a), some (.ref c), some (.int (i : Int))] H3 (.int cellMax) := fun H3 =>
        Evl.ev_op (Evl.ev_op Evl.ev_c Evl.ev_c (Evl.rv_I (by decide +kernel))) Evl.ev_c (Evl.rv_I ⟨by decide, bits60⟩)
      refine Evl.s_when (b := decide ((10 : Int) ^ 18 ≤ (if m < 0 then -m else m))) (Evl.et_test (Evl.ev_op (Evl.ev_cb (Evl.ea_cons (evAt H' (Evl.Ex.refl _)) Evl.ea_nil) (fun H3 _ Q q => ⟨m, rfl, q H3 (Evl.Ex.refl _)⟩)) (ev18 H') Evl.rv_I0))
        (fun hb1 H3 e3 => ?_) (fun hb0 H3 e3 => ?_)
      · refine Evl.s_setL (xs := ms.map V.int) (j := i) (v := .int (m % cellMax)) (l := c) (e3 _ _ h2) (Evl.ev_op (evAt H3 e3) (evBig H3) (Evl.rv_I (by show 0 < cellMax; exact cellPos))) (Evl.ev_var rfl) (Evl.ev_var rfl) (by rw [List.length_map]; exact hi') fun H4 e4 => ?_
        refine ⟨ms.set i (m % cellMax), _, rfl, ((e2.trans e3).trans e4).mut hc, ?_, by rw [List.length_set]; exact hl, fun j m' hj hm' => ?_⟩
        · rw [upd_same, List.map_set]
        · by_cases hji : j = i
          · subst hji
            rw [List.getElem?_set_self hi'] at hm'
            have z := Option.some.inj hm'
            have z2 := cellMod m
            omega
          · rw [List.getElem?_set_ne (Ne.symm hji)] at hm'
            exact hb j m' (by omega) hm'
      · refine ⟨ms, _, rfl, e2.trans e3, e3 _ _ h2, hl, fun j m' hj hm' => ?_⟩
        by_cases hji : j = i
        · subst hji
          rw [hm] at hm'
          have z := Option.some.inj hm'
          have z2 := of_decide_eq_false hb0
          have z3 := big18
          subst z
          split at z2 <;> omega
        · exact hb j m' (by omega) hm'
    · obtain ⟨ms, y, rfl, e2, h2, hl, hb⟩ := hP
      have hall : ∀ m ∈ ms, -cellMax < m ∧ m < cellMax := fun m hm => by
        obtain ⟨j, hj, rfl⟩ := List.getElem_of_mem hm
        exact hb j _ (by have := Int.toNat_natCast ns.length; omega) (List.getElem?_eq_getElem hj)
      -- if _law_cells == []
      refine Evl.q_when (b := ms.isEmpty) (Evl.et_test (Evl.ev_opL (Evl.ev_var rfl) (Evl.el_lst (vs := []) Evl.ea_nil (by decide)) fun p H3 hp e3 H4 e4 Q k =>
          ⟨.list (ms.map PyData.int), .list [], .lst (Evl.sq_of (e4 _ _ (e3 _ _ h2))) (dpInts ms), .lst (Evl.sq_of (e4 _ _ hp)) .nil, shapedInts ms, shapedInts [], by rw [eqvNil]; exact k H4 (Evl.Ex.refl _)⟩))
        (fun hb1 H3 e3 => ?_) (fun hb0 H3 e3 => ?_)
      · refine Evl.s_asgL (xs := [V.int 0]) (Evl.el_lst (Evl.ea_cons Evl.ev_c Evl.ea_nil) (by decide)) fun c2 H4 hc2 e4 h4 => ?_
        refine Evl.s_retL (Evl.el_lst (Evl.ea_cons (Evl.ev_var rfl) (Evl.ea_cons Evl.ev_c Evl.ea_nil)) (by show 2 ≤ 100000; decide)) fun p H5 hp e5 h5 => ?_
        have hpc : p ≠ c2 := fun z => by
          rw [z, h4] at hp
          cases hp
        exact q H5 (p, c2) (((e2.trans e3).trans e4).trans e5) (Evl.fresh_back ((e2.trans e3).trans e4) hp) (Evl.fresh_back (e2.trans e3) hc2)
          ⟨hpc, h5, [0], ⟨by simp, by decide, fun n hn => by
            have z := List.mem_singleton.mp hn
            have z2 := cellPos
            omega⟩, e5 _ _ h4⟩
      · refine Evl.s_retL (Evl.el_lst (Evl.ea_cons (Evl.ev_var rfl) (Evl.ea_cons Evl.ev_c Evl.ea_nil)) (by show 2 ≤ 100000; decide)) fun p H5 hp e5 h5 => ?_
        have h3 := e3 _ _ h2
        have hpc : p ≠ c := fun z => by
          rw [z, h3] at hp
          cases hp
        exact q H5 (p, c) ((e2.trans e3).trans e5) (Evl.fresh_back (e2.trans e3) hp) hc ⟨hpc, h5, ms, ⟨fun z => (by
          rw [z] at hb0
          exact Bool.noConfusion hb0), by omega, hall⟩, e5 _ _ h3⟩
end
end Lw
set_option Elab.async false
set_option linter.all false
set_option maxRecDepth 100000
set_option maxHeartbeats 4000000
namespace Lw
open PySem PySem.Spec PyProof.Rows L2
section
variable {P : Program} {w : World} {K : PySem.W.Frag} {mg : Str → Option Value} {base : Heap}
/-- a draw below L: any number there; the source turns on -/
def spDraw (K : PySem.W.Frag) : Sp := fun vs H Q _ => ∃ (S : Addr × Addr) (t : Nat) (L : Int), vs = [.ref S.1, .int L] ∧ Src H S t ∧ t < 2 ^ 40 ∧ 0 < L ∧ L.natAbs < 2 ^ 9000 ∧
  ∀ (k : Int) (H' : Hp), But S H H' → Src H' S (t + 1) → 0 ≤ k → k < L → Q (.int k) H'
theorem hiPow {H : Hp} {σ : L2.St} {i j r : Int} (h : 0 ≤ j ∧ (Builtin.Int.intBits i : Int) * j ≤ 2 ^ 27) (e : i ^ j.toNat = r) :
    Evl.Ev (tOp (rI (fun i j => 0 ≤ j ∧ (Builtin.Int.intBits i : Int) * j ≤ 2 ^ 27) fun i j => .int (i ^ j.toNat)) (tC (.int i)) (tC (.int j))) σ H (.int r) := by
  subst e
  exact Evl.ev_op Evl.ev_c Evl.ev_c (Evl.rv_I h)
theorem cmul_l {i j : Int} (h0 : 0 ≤ i) (h : i < 2 ^ 64) : CMul i j := .inl ⟨by omega, h⟩
theorem ok_draw {f : Addr} {fd : FuncData} (F : Fun K "_law_draw" "_law_draw" sDraw f fd) (ml : mg "len" = none) :
    FnOk P w K mg base CX0 1 f fd ["_law_source_here", "_law_limit"] (spDraw K) := by
  refine F.ok scDraw (fun vs H Q E h => ?_) (fun cdv A outer s H vs Q E hr h => ?_)
  · obtain ⟨S, t, L, rfl, _⟩ := h
    rfl
  · obtain ⟨⟨sa, ca⟩, t, L, rfl, hS, ht, hL0, hLb, q⟩ := h
    obtain ⟨hne, h1, ns, hc, h2⟩ := hS
    dsimp only at hne h1 h2 q ⊢
    have nd := scDraw.nd
    refine ⟨_, pss_cons (ps_asg (pv 0) (pg_lst rfl (pgs_cons (pg_name (i := 2) nd rfl (.inl rfl)) (pgs_cons (pg_name (i := 3) nd rfl (.inl rfl)) pgs_nil))))
      (pss_cons (ps_set (i := 4) nd rfl (.inl rfl) (pe_op op_mod (pv 3) (pe_callB call_len_seq (by rfl) ml PySem.boot_len (pa_cons (pv 2) pa_nil))))
      (pss_cons (ps_set (i := 5) nd rfl (.inl rfl) (pe_ix ix_list (pv 2) (pv 4) (fun _ _ => rfl)))
      (pss_cons (ps_asg (pe_op op_add (pv 3) pe_int) (pg_sub (pv 0) pe_int set_list))
      (pss_cons (ps_if (pt_cmpR op_ge (pv 5) (pe_op op_powB pe_int pe_int) (nomark _))
        (pss_cons (ps_asg (pe_op op_fdivW (pv 5) (pv 1)) (pg_sub (pv 2) (pv 4) set_list)) (pss_one (ps_ret (pe_op op_mod (pv 5) (pv 1))))) pss_nil)
      (pss_cons (ps_set (i := 6) nd rfl (.inl rfl) (pe_op op_mod (pe_op op_add (pe_op op_add (pe_op op_mul (pe_op op_mod (pv 5) pe_int) pe_int) (pe_op op_mul (pe_op op_mul (pv 3) (pv 3)) pe_int)) pe_int) pe_int))
      (pss_cons (ps_set (i := 6) nd rfl (.inl rfl) (pe_op op_mod (pe_op op_mul (pv 6) (pv 6)) pe_int))
      (pss_cons (ps_set (i := 6) nd rfl (.inl rfl) (pe_op op_mod (pe_op op_mul (pv 6) (pv 6)) pe_int))
      (pss_cons (ps_if (pt_cmpR op_gt (pv 1) (pe_op op_powB pe_int pe_int) (nomark _))
        (pss_cons (ps_set (i := 7) nd rfl (.inl rfl) (pe_op op_mod (pe_op op_add (pe_op op_add (pe_op op_mul (pv 6) pe_int) (pe_op op_mul (pv 3) pe_int)) pe_int) pe_int))
          (pss_one (ps_set (i := 6) nd rfl (.inl rfl) (pe_op op_mul (pv 6) (pe_op op_add (pe_op op_mul (pe_op op_mul (pv 7) (pv 7)) (pv 7)) pe_int))))) pss_nil)
      (pss_one (ps_ret (pe_op op_mod (pv 6) (pv 1)))))))))))), ?_⟩
    have nsl : 0 < ns.length := List.length_pos_iff.mpr hc.1
    -- the place
    have hat0 : 0 ≤ (t : Int) % (ns.length : Int) := Int.emod_nonneg _ (by omega)
    have hatL : (t : Int) % (ns.length : Int) < (ns.length : Int) := Int.emod_lt_of_pos _ (by omega)
    obtain ⟨j, hj⟩ : ∃ j : Nat, (t : Int) % (ns.length : Int) = (j : Int) := ⟨((t : Int) % (ns.length : Int)).toNat, (Int.toNat_of_nonneg hat0).symm⟩
    have hjl : j < ns.length := by omega
    obtain ⟨m, hm⟩ : ∃ m, ns[j]? = some m := ⟨_, List.getElem?_eq_getElem hjl⟩
    have gm : (ns.map V.int)[j]? = some (.int m) := by
      rw [List.getElem?_map, hm]
      rfl
    have hmb := hc.2.2 m (List.mem_of_getElem? hm)
    refine ⟨_, rfl, sa, _, rfl, .inl (.inl h1), rfl, _, _, rfl, _, _, rfl, rfl, ?_⟩
    refine Evl.q_asg (v := .int (j : Int)) (Evl.ev_op (z := .int (j : Int)) (x := .int (t : Int)) (y := .int (ns.length : Int)) (Evl.ev_var rfl) (by
        have z := Evl.ev_len (K := K) (H := H) (xs := ns.map V.int) (ta := tVar 2) (p := ca) (σ := [some (V.ref sa), some (.int L), some (.ref ca), some (.int (t : Int)), none, none, none, none]) (Evl.ev_var rfl) (Evl.sq_of h2)
        rw [List.length_map] at z
        exact z) (by rw [← hj]; exact Evl.rv_I (by show (0 : Int) < (ns.length : Int); omega))) fun H1 e1 => ?_
    refine Evl.q_asg (Evl.ev_op (Evl.ev_var rfl) (Evl.ev_var rfl) (Evl.rv_ixL (Evl.sq_of (e1 _ _ h2)) (atI_nat gm))) fun H2 e2 => ?_
    have e12 := e1.trans e2
    refine Evl.q_setL (l := sa) (xs := [.ref ca, .int (t : Int)]) (j := 1) (v := .int ((t : Int) + 1)) (e12 _ _ h1) (Evl.ev_op (Evl.ev_var rfl) Evl.ev_c Evl.rv_I0) (Evl.ev_var rfl) Evl.ev_c (by show 1 < 2; decide) fun H3 e3 => ?_
    have e13 := e12.trans e3
    -- the heap from here on
    generalize hK : upd H3 sa (.lst ([V.ref ca, V.int (t : Int)].set 1 (.int ((t : Int) + 1)))) = K0
    have k1 : K0 sa = some (.lst [.ref ca, .int ((t + 1 : Nat) : Int)]) := by
      rw [← hK, upd_same]
      rfl
    have k2 : K0 ca = some (.lst (ns.map V.int)) := by
      rw [← hK, upd_ne (Ne.symm hne)]
      exact e13 _ _ h2
    have kb : But (sa, ca) H K0 := fun b o b1 b2 hb => by
      rw [← hK, upd_ne b1]
      exact e13 _ _ hb
    have done : ∀ (H4 : Hp), Ex K0 H4 → ∀ k, 0 ≤ k → k < L → Q (.int k) H4 := fun H4 e4 k a b =>
      q k H4 (kb.trans (.of e4)) ⟨hne, e4 _ _ k1, ns, hc, e4 _ _ k2⟩ a b
    clear hK e13 e12 e3 e2 e1
    have evMod : ∀ (i : Nat) (x : Int) (σ : L2.St) (H4 : Hp), σ[i]? = some (some (.int x)) → σ[1]? = some (some (.int L)) →
        Evl.Ev (tOp (rI (fun _ j => 0 < j) fun i j => .int (i % j)) (tVar i) (tVar 1)) σ H4 (.int (x % L)) := fun i x σ H4 a b =>
      Evl.ev_op (Evl.ev_var a) (Evl.ev_var b) (Evl.rv_I (by show 0 < L; exact hL0))
    have modL : ∀ x : Int, 0 ≤ x % L ∧ x % L < L := fun x => ⟨Int.emod_nonneg _ (by omega), Int.emod_lt_of_pos _ hL0⟩
    refine Evl.q_when (b := decide ((10 : Int) ^ 18 ≤ m)) (Evl.et_test (Evl.ev_op (Evl.ev_var rfl) (hiPow (by decide +kernel) rfl) Evl.rv_I0)) (fun hb1 H4 e4 => ?_) (fun hb0 H4 e4 => ?_)
    · have m18 : (10 : Int) ^ 18 ≤ m := of_decide_eq_true hb1
      have d18 : (0 : Int) < 10 ^ 18 := by decide
      have q0 : 0 ≤ m / L := Int.ediv_nonneg (by omega) (by omega)
      have q1 : m / L ≤ m := Int.ediv_le_self _ (by omega)
      refine Evl.q_setL (l := ca) (xs := ns.map V.int) (j := j) (v := .int (m / L)) (e4 _ _ k2) (Evl.ev_op (Evl.ev_var rfl) (Evl.ev_var rfl) (Evl.rv_I (show CDivW m L from wide_div hL0 hLb (by decide) (by decide)))) (Evl.ev_var rfl) (Evl.ev_var rfl)
        (by rw [List.length_map]; exact hjl) fun H5 e5 => ?_
      refine Evl.s_ret (evMod 5 m _ _ rfl rfl) fun H6 e6 => ?_
      have e45 := e4.trans e5
      refine q _ _ (fun b o b1 b2 hb => ?_) ⟨hne, ?_, ns.set j (m / L), ⟨fun z => ?_, by rw [List.length_set]; exact hc.2.1, fun n hn => ?_⟩, ?_⟩ (modL m).1 (modL m).2
      · refine e6 _ _ ?_
        rw [upd_ne b2]
        exact e45 _ _ (kb b o b1 b2 hb)
      · refine e6 _ _ ?_
        rw [upd_ne hne]
        exact e45 _ _ k1
      · have z2 := congrArg List.length z
        rw [List.length_set] at z2
        exact hc.1 (List.length_eq_zero_iff.mp z2)
      · rcases List.mem_or_eq_of_mem_set hn with z | z
        · exact hc.2.2 n z
        · subst z
          have z2 := cellPos
          omega
      · refine e6 _ _ ?_
        rw [upd_same, List.map_set]
    · have evSq : ∀ (x : Int) (σ : L2.St) (H4 : Hp) (M : Int), 0 ≤ x → x < 2 ^ 31 → σ[6]? = some (some (.int x)) → 0 < M →
          Evl.Ev (tOp (rI (fun _ j => 0 < j) fun i j => .int (i % j)) (tOp (rI CMul fun i j => .int (i * j)) (tVar 6) (tVar 6)) (tC (.int M))) σ H4 (.int (x * x % M)) := fun x σ H4 M a b c d =>
        Evl.ev_op (Evl.ev_op (Evl.ev_var c) (Evl.ev_var c) (Evl.rv_I (cmul_l a (by omega)))) Evl.ev_c (Evl.rv_I (by show 0 < M; exact d))
      have t0 : (0 : Int) ≤ (t : Int) := by omega
      have t40 : (t : Int) < 2 ^ 40 := by omega
      have md : ∀ x M : Int, 0 < M → 0 ≤ x % M ∧ x % M < M := fun x M hM => ⟨Int.emod_nonneg _ (by omega), Int.emod_lt_of_pos _ hM⟩
      have c1 := md m 2147483629 (by decide)
      have tt : (t : Int) * (t : Int) < 2 ^ 80 := by
        have z : (t : Int) * (t : Int) ≤ (2 ^ 40 - 1) * (2 ^ 40 - 1) := Int.mul_le_mul (by omega) (by omega) t0 (by decide)
        have z2 : ((2 : Int) ^ 40 - 1) * (2 ^ 40 - 1) < 2 ^ 80 := by decide
        omega
      refine Evl.q_asg (v := .int ((m % 2147483629 * 48271 + (t : Int) * (t : Int) * 69621 + 11) % 2147483647)) (Evl.ev_op (Evl.ev_op (Evl.ev_op (Evl.ev_op (Evl.ev_op (Evl.ev_var rfl) Evl.ev_c (Evl.rv_I (by decide))) Evl.ev_c (Evl.rv_I (cmul_l c1.1 (by omega))))
          (Evl.ev_op (Evl.ev_op (Evl.ev_var rfl) (Evl.ev_var rfl) (Evl.rv_I (cmul_l t0 (by omega)))) Evl.ev_c (Evl.rv_I (show CMul _ _ from .inr ⟨by decide, by decide⟩))) Evl.rv_I0) Evl.ev_c Evl.rv_I0) Evl.ev_c (Evl.rv_I (by decide))) fun H5 e5 => ?_
      have c2 := md (m % 2147483629 * 48271 + (t : Int) * (t : Int) * 69621 + 11) 2147483647 (by decide)
      generalize (m % 2147483629 * 48271 + (t : Int) * (t : Int) * 69621 + 11) % 2147483647 = x2 at c2 ⊢
      refine Evl.q_asg (evSq x2 _ _ 2147483629 c2.1 (by omega) rfl (by decide)) fun H6 e6 => ?_
      have c3 := md (x2 * x2) 2147483629 (by decide)
      generalize x2 * x2 % 2147483629 = x3 at c3 ⊢
      refine Evl.q_asg (evSq x3 _ _ 2147483587 c3.1 (by omega) rfl (by decide)) fun H7 e7 => ?_
      have c4 := md (x3 * x3) 2147483587 (by decide)
      generalize x3 * x3 % 2147483587 = x4 at c4 ⊢
      have e47 := ((e4.trans e5).trans e6).trans e7
      refine Evl.q_when (b := decide ((10 : Int) ^ 9 < L)) (Evl.et_test (Evl.ev_op (Evl.ev_var rfl) (hiPow (by decide +kernel) rfl) Evl.rv_I0)) (fun hb1 H8 e8 => ?_) (fun hb2 H8 e8 => ?_)
      · have c5 := md (x4 * 39373 + (t : Int) * 7919 + 500) 2147483629 (by decide)
        refine Evl.q_asg (v := .int ((x4 * 39373 + (t : Int) * 7919 + 500) % 2147483629)) (Evl.ev_op (Evl.ev_op (Evl.ev_op (Evl.ev_op (Evl.ev_var rfl) Evl.ev_c (Evl.rv_I (cmul_l c4.1 (by omega))))
          (Evl.ev_op (Evl.ev_var rfl) Evl.ev_c (Evl.rv_I (cmul_l t0 (by omega)))) Evl.rv_I0) Evl.ev_c Evl.rv_I0) Evl.ev_c (Evl.rv_I (by decide))) fun H9 e9 => ?_
        generalize (x4 * 39373 + (t : Int) * 7919 + 500) % 2147483629 = x5 at c5 ⊢
        have s5 : 0 ≤ x5 * x5 := Int.mul_nonneg c5.1 c5.1
        have s6 : x5 * x5 < 2 ^ 64 := by
          have z3 : x5 * x5 ≤ 2147483629 * 2147483629 := Int.mul_le_mul (by omega) (by omega) c5.1 (by decide)
          have z2 : (2147483629 : Int) * 2147483629 < 2 ^ 64 := by decide
          omega
        refine Evl.s_asg (v := .int (x4 * (x5 * x5 * x5 + 1))) (Evl.ev_op (Evl.ev_var rfl) (Evl.ev_op (Evl.ev_op (Evl.ev_op (Evl.ev_var rfl) (Evl.ev_var rfl) (Evl.rv_I (cmul_l c5.1 (by omega)))) (Evl.ev_var rfl) (Evl.rv_I (cmul_l s5 s6))) Evl.ev_c Evl.rv_I0) (Evl.rv_I (cmul_l c4.1 (by omega)))) fun H10 e10 => ?_
        exact Evl.s_ret (evMod 6 _ _ _ rfl rfl) fun H11 e11 => done H11 ((((e47.trans e8).trans e9).trans e10).trans e11) _ (modL _).1 (modL _).2
      · exact Evl.s_ret (evMod 6 _ _ _ rfl rfl) fun H9 e9 => done H9 ((e47.trans e8).trans e9) _ (modL _).1 (modL _).2
end
end Lw
set_option Elab.async false
set_option linter.all false
set_option maxRecDepth 100000
set_option maxHeartbeats 4000000
namespace Lw
open PySem PySem.Spec PyProof.Rows L2
section
variable {P : Program} {w : World} {K : PySem.W.Frag} {mg : Str → Option Value} {base : Heap}
theorem But.seq {S : Addr × Addr} {H H' : Hp} {a : Addr} {xs : List V} (e : But S H H') (a1 : a ≠ S.1) (a2 : a ≠ S.2) (h : SqL K H a xs) : SqL K H' a xs := by
  rcases h with (h | ⟨o, h⟩) | h
  · exact .inl (.inl (e _ _ a1 a2 h))
  · exact .inl (.inr ⟨o, e _ _ a1 a2 h⟩)
  · exact .inr h
/-- one of the values -/
def spPick (K : PySem.W.Frag) : Sp := fun vs H Q _ => ∃ (S : Addr × Addr) (t : Nat) (va : Addr) (xs : List V), vs = [.ref S.1, .ref va] ∧ Src H S t ∧ t < 2 ^ 40 ∧ SqL K H va xs ∧ va ≠ S.1 ∧ va ≠ S.2 ∧ 0 < xs.length ∧ xs.length ≤ 1000000 ∧
  ∀ (x : V) (H' : Hp), But S H H' → Src H' S (t + 1) → x ∈ xs → Q x H'
theorem ok_pick {f fD : Addr} {fd fdD : FuncData} (F : Fun K "_law_pick" "_law_pick" sPick f fd) (FD : Fun K "_law_draw" "_law_draw" sDraw fD fdD) (bD : Binds K fdD ["_law_source_here", "_law_limit"] []) (gD : mg "_law_draw" = some (.ref fD)) (ml : mg "len" = none) :
    FnOk P w K mg base CX0 2 f fd ["_law_source_here", "_law_values"] (spPick K) := by
  have GD : FnOk P w K mg base CX0 1 fD fdD ["_law_source_here", "_law_limit"] (spDraw K) := ok_draw FD ml
  refine F.ok scPick (fun vs H Q E h => ?_) (fun cdv A outer s H vs Q E hr h => ?_)
  · obtain ⟨S, t, va, xs, rfl, _⟩ := h
    rfl
  · obtain ⟨S, t, va, xs, rfl, hS, ht, hx, n1, n2, l0, l1, q⟩ := h
    refine ⟨_, pss_one (ps_ret (pe_ix ix_list (pv 1) (pe_call GD hr (by rfl) gD FD.kp bD .nil pass0 (pa_cons (pv 0) (pa_cons (pe_callB call_len_seq (by rfl) ml PySem.boot_len (pa_cons (pv 1) pa_nil)) pa_nil))) (fun _ _ => rfl))), ?_⟩
    refine ⟨_, rfl, _, rfl, _, rfl, va, xs, rfl, .inl hx, S, t, (xs.length : Int), rfl, hS, ht, by omega, ?_, fun k H' hb hs k0 kL => ?_⟩
    · have z : (xs.length : Int).natAbs = xs.length := by omega
      rw [z]
      exact Nat.lt_of_le_of_lt l1 (Nat.lt_of_lt_of_le (by decide : 1000000 < 2 ^ 20) (Nat.pow_le_pow_right (by decide) (by decide)))
    · obtain ⟨i, rfl⟩ : ∃ i : Nat, k = (i : Int) := ⟨k.toNat, (Int.toNat_of_nonneg k0).symm⟩
      have hi : i < xs.length := by omega
      exact ⟨va, xs, (i : Int), xs[i], rfl, rfl, hb.seq n1 n2 hx, atI_nat (List.getElem?_eq_getElem hi), q _ _ hb hs (List.getElem_mem hi)⟩
end
end Lw
set_option Elab.async false
set_option linter.all false
set_option maxRecDepth 100000
set_option maxHeartbeats 4000000
namespace Lw
open PySem PySem.Spec PyProof.Rows L2 ExV
abbrev sMatches : Stmt := topS 19
theorem scMatches : FnScope ["_law_error", "_law_hits", "_law_base", "_law_k"] ["_law_error"] (defScope sMatches) := ⟨rfl, rfl, rfl, by decide +kernel, rfl, by decide +kernel, by decide +kernel⟩
/-- isinstance of an object of the class i against the class j (13: the base of all) -/
def hit (i j : Nat) : Bool := decide (i = j) || decide (j = 13)
/-- the fourteen classes, asked -/
structure Kits (K : PySem.W.Frag) (cs : Nat → Addr) : Prop where
  ex : ∀ i, i < 14 → ExcC K (cs i)
  kit : ∀ i j, i < 14 → j < 14 → PySem.W.kitOne K (.ref (cs i)) (.ref (cs j)) = some (hit i j)
  kitV : ∀ i, i < 14 → PySem.W.kitOne K (.ref (cs i)) (.type "ValueError") = some true
structure Gls (mg : Str → Option Value) (cs : Nat → Addr) : Prop where
  g0 : mg "InvalidIndex" = some (.ref (cs 0))
  g1 : mg "InvalidPins" = some (.ref (cs 1))
  g2 : mg "InvalidPlacements" = some (.ref (cs 2))
  g3 : mg "NotPinned" = some (.ref (cs 3))
  g4 : mg "NothingToUndo" = some (.ref (cs 4))
  g5 : mg "PlacementNotMet" = some (.ref (cs 5))
  g6 : mg "UnknownItem" = some (.ref (cs 6))
  g7 : mg "UnknownSlot" = some (.ref (cs 7))
  g8 : mg "InvalidArrangement" = some (.ref (cs 8))
  g9 : mg "InvalidInventory" = some (.ref (cs 9))
  g10 : mg "InvalidMove" = some (.ref (cs 10))
  g11 : mg "InvalidMoves" = some (.ref (cs 11))
  g12 : mg "PinnedSlot" = some (.ref (cs 12))
  g13 : mg "LikeholesError" = some (.ref (cs 13))
def resM (i : Nat) : List V := if i < 13 then [.int (i : Int)] else []
def spMatches (cs : Nat → Addr) : Sp := fun vs H Q _ => ∃ (a : Addr) (i : Nat) (fs : Option (List (Str × V))), vs = [.ref a] ∧ i < 14 ∧ Exc H a (cs i) fs ∧ Evl.RetL (resM i) H Q
section
variable {P : Program} {w : World} {K : PySem.W.Frag} {mg : Str → Option Value} {base : Heap} {cs : Nat → Addr}
theorem el_cat {ta tb : TE} {σ : L2.St} {H : Hp} {l : Addr} {xs ys : List V} (ha : Evl.Ev ta σ H (.ref l)) (hl : H l = some (.lst xs)) (hb : Evl.EvL tb σ H ys) (hz : xs.length + ys.length ≤ 100000) : Evl.EvL (tOp rCat ta tb) σ H (xs ++ ys) := fun H1 e Q q =>
  ha H1 e _ fun H2 e2 => hb H2 (e.trans e2) _ fun p H3 hp e3 h3 => ⟨l, p, xs, ys, rfl, rfl, ((e.trans e2).trans e3) _ _ hl, h3, Evl.sz_of hz, fun r hr => q r _ (Evl.fresh_back (e2.trans e3) hr) ((e2.trans e3).trans (Evl.Ex.new hr)) upd_same⟩
theorem ev_isi {σ : L2.St} {H : Hp} {a : Addr} {i j : Nat} {fs : Option (List (Str × V))} (C : Kits K cs) (hi : i < 14) (hx : Exc H a (cs i) fs) (h0 : σ[0]? = some (some (.ref a))) (hj : j < 14) :
    Evl.Ev (tCB (rIsX K) (tCons (tVar 0) (tCons (tC (.ref (cs j))) tNil))) σ H (.bl (hit i j)) :=
  Evl.ev_cb (Evl.ea_cons (Evl.ev_var h0) (Evl.ea_cons Evl.ev_c Evl.ea_nil)) fun H1 e Q q => ⟨a, cs i, fs, _, _, _, rfl, C.ex i hi, hx.mono e, .own _, C.kit i j hi hj, q H1 (Evl.Ex.refl _)⟩
theorem ev_isV {σ : L2.St} {H : Hp} {a : Addr} {i : Nat} {fs : Option (List (Str × V))} (C : Kits K cs) (hi : i < 14) (hx : Exc H a (cs i) fs) (h0 : σ[0]? = some (some (.ref a))) :
    Evl.Ev (tCB (rIsX K) (tCons (tVar 0) (tCons (tC (.ty "ValueError")) tNil))) σ H (.bl true) :=
  Evl.ev_cb (Evl.ea_cons (Evl.ev_var h0) (Evl.ea_cons Evl.ev_c Evl.ea_nil)) fun H1 e Q q => ⟨a, cs i, fs, _, _, _, rfl, C.ex i hi, hx.mono e, .ty _, C.kitV i hi, q H1 (Evl.Ex.refl _)⟩
theorem ok_matches {f : Addr} {fd : FuncData} (F : Fun K "_law_matches" "_law_matches" sMatches f fd) (C : Kits K cs) (G : Gls mg cs) (mi : mg "isinstance" = none) (mr : mg "range" = none) (mV : mg "ValueError" = none) :
    FnOk P w K mg base CX0 1 f fd ["_law_error"] (spMatches cs) := by
  refine F.ok scMatches (fun vs H Q E h => ?_) (fun cdv A outer s H vs Q E hr h => ?_)
  · obtain ⟨a, i, fs, rfl, _⟩ := h
    rfl
  · obtain ⟨a, i, fs, rfl, hi, hx, q⟩ := h
    have nd := scMatches.nd
    refine ⟨_, pss_cons (ps_set (i := 1) nd rfl (.inr rfl) (pe_lst
        (pa_cons (pe_callB call_isX (by rfl) mi (by decide +kernel) (pa_cons (pv 0) (pa_cons (pe_glob (v := .ref (cs 0)) (by rfl) G.g0 rfl) pa_nil)))
        (pa_cons (pe_callB call_isX (by rfl) mi (by decide +kernel) (pa_cons (pv 0) (pa_cons (pe_glob (v := .ref (cs 1)) (by rfl) G.g1 rfl) pa_nil)))
        (pa_cons (pe_callB call_isX (by rfl) mi (by decide +kernel) (pa_cons (pv 0) (pa_cons (pe_glob (v := .ref (cs 2)) (by rfl) G.g2 rfl) pa_nil))) pa_nil)))))
      (pss_cons (ps_set (i := 1) nd rfl (.inr rfl) (pe_op op_cat (pv 1) (pe_lst
        (pa_cons (pe_callB call_isX (by rfl) mi (by decide +kernel) (pa_cons (pv 0) (pa_cons (pe_glob (v := .ref (cs 3)) (by rfl) G.g3 rfl) pa_nil)))
        (pa_cons (pe_callB call_isX (by rfl) mi (by decide +kernel) (pa_cons (pv 0) (pa_cons (pe_glob (v := .ref (cs 4)) (by rfl) G.g4 rfl) pa_nil)))
        (pa_cons (pe_callB call_isX (by rfl) mi (by decide +kernel) (pa_cons (pv 0) (pa_cons (pe_glob (v := .ref (cs 5)) (by rfl) G.g5 rfl) pa_nil))) pa_nil))))))
      (pss_cons (ps_set (i := 1) nd rfl (.inr rfl) (pe_op op_cat (pv 1) (pe_lst
        (pa_cons (pe_callB call_isX (by rfl) mi (by decide +kernel) (pa_cons (pv 0) (pa_cons (pe_glob (v := .ref (cs 6)) (by rfl) G.g6 rfl) pa_nil)))
        (pa_cons (pe_callB call_isX (by rfl) mi (by decide +kernel) (pa_cons (pv 0) (pa_cons (pe_glob (v := .ref (cs 7)) (by rfl) G.g7 rfl) pa_nil))) pa_nil)))))
      (pss_cons (ps_set (i := 1) nd rfl (.inr rfl) (pe_op op_cat (pv 1) (pe_lst
        (pa_cons (pe_callB call_isX (by rfl) mi (by decide +kernel) (pa_cons (pv 0) (pa_cons (pe_glob (v := .ref (cs 8)) (by rfl) G.g8 rfl) pa_nil)))
        (pa_cons (pe_callB call_isX (by rfl) mi (by decide +kernel) (pa_cons (pv 0) (pa_cons (pe_glob (v := .ref (cs 9)) (by rfl) G.g9 rfl) pa_nil))) pa_nil)))))
      (pss_cons (ps_set (i := 1) nd rfl (.inr rfl) (pe_op op_cat (pv 1) (pe_lst
        (pa_cons (pe_callB call_isX (by rfl) mi (by decide +kernel) (pa_cons (pv 0) (pa_cons (pe_glob (v := .ref (cs 10)) (by rfl) G.g10 rfl) pa_nil)))
        (pa_cons (pe_callB call_isX (by rfl) mi (by decide +kernel) (pa_cons (pv 0) (pa_cons (pe_glob (v := .ref (cs 11)) (by rfl) G.g11 rfl) pa_nil)))
        (pa_cons (pe_callB call_isX (by rfl) mi (by decide +kernel) (pa_cons (pv 0) (pa_cons (pe_glob (v := .ref (cs 12)) (by rfl) G.g12 rfl) pa_nil))) pa_nil))))))
      (pss_cons (ps_set (i := 2) nd rfl (.inr rfl) (pe_and (pe_callB call_isX (by rfl) mi (by decide +kernel) (pa_cons (pv 0) (pa_cons (pe_glob (v := .ref (cs 13)) (by rfl) G.g13 rfl) pa_nil)))
        (pe_one (pe_callB call_isX (by rfl) mi (by decide +kernel) (pa_cons (pv 0) (pa_cons (pe_bltn (v := .ty "ValueError") (by rfl) mV (by decide +kernel) rfl) pa_nil))))))
      (pss_one (ps_ret (pe_lc (own := [("_law_k", 3)]) (g := gName 3) (tt := tAnd (tB (tOp (rIxL K) (tVar 1) (tVar 3))) (tB (tVar 2))) (te := tVar 3) (by rfl) nd (pi_range1 (by rfl) mr (pa_cons pe_int pa_nil)) (blkOk_by (own := [("_law_k", 3)]) (N := ["_law_error", "_law_hits", "_law_base", "_law_k"]) (sc := defScope sMatches) (by decide +kernel))
        (fun _ _ _ _ _ => pg_name (i := 3) nd rfl (.inl rfl)) (fun _ _ _ _ _ => pts_one (PW.pt (pw_and (pt_val (pe_ix ix_list (pv 1) (pv 3) (fun _ _ => rfl))) (pw_and1 (pt_val (pv 2)))))) (fun _ _ _ _ _ => pv 3))))))))), ?_⟩
    refine Evl.q_asgL (Evl.el_lst (Evl.ea_cons (ev_isi C hi hx rfl (by decide)) (Evl.ea_cons (ev_isi C hi hx rfl (by decide)) (Evl.ea_cons (ev_isi C hi hx rfl (by decide)) Evl.ea_nil))) (by show 3 ≤ 100000; decide)) fun l1 H1 n1 e1 h1 => ?_
    have x1 := hx.mono e1
    refine Evl.q_asgL (el_cat (Evl.ev_var rfl) h1 (Evl.el_lst (Evl.ea_cons (ev_isi C hi x1 rfl (by decide)) (Evl.ea_cons (ev_isi C hi x1 rfl (by decide)) (Evl.ea_cons (ev_isi C hi x1 rfl (by decide)) Evl.ea_nil))) (by show 3 ≤ 100000; decide)) (by show 3 + 3 ≤ 100000; decide)) fun l2 H2 n2 e2 h2 => ?_
    have x2 := x1.mono e2
    refine Evl.q_asgL (el_cat (Evl.ev_var rfl) h2 (Evl.el_lst (Evl.ea_cons (ev_isi C hi x2 rfl (by decide)) (Evl.ea_cons (ev_isi C hi x2 rfl (by decide)) Evl.ea_nil)) (by show 2 ≤ 100000; decide)) (by show 6 + 2 ≤ 100000; decide)) fun l3 H3 n3 e3 h3 => ?_
    have x3 := x2.mono e3
    refine Evl.q_asgL (el_cat (Evl.ev_var rfl) h3 (Evl.el_lst (Evl.ea_cons (ev_isi C hi x3 rfl (by decide)) (Evl.ea_cons (ev_isi C hi x3 rfl (by decide)) Evl.ea_nil)) (by show 2 ≤ 100000; decide)) (by show 8 + 2 ≤ 100000; decide)) fun l4 H4 n4 e4 h4 => ?_
    have x4 := x3.mono e4
    refine Evl.q_asgL (el_cat (Evl.ev_var rfl) h4 (Evl.el_lst (Evl.ea_cons (ev_isi C hi x4 rfl (by decide)) (Evl.ea_cons (ev_isi C hi x4 rfl (by decide)) (Evl.ea_cons (ev_isi C hi x4 rfl (by decide)) Evl.ea_nil))) (by show 3 ≤ 100000; decide)) (by show 10 + 3 ≤ 100000; decide)) fun l5 H5 n5 e5 h5 => ?_
    have x5 := x4.mono e5
    refine Evl.q_asg (Evl.ev_andV (ev_isi C hi x5 rfl (by decide)) (fun _ => ev_isV C hi x5 rfl)) fun H6 e6 => ?_
    have h13 : hit i 13 = true := by
      unfold hit
      simp
    have hs : ∀ k : Nat, k < 13 → ((List.range 13).map fun j => V.bl (hit i j))[k]? = some (.bl (hit i k)) := fun k hk => by
      rw [List.getElem?_map, List.getElem?_range hk]
      rfl
    have h6 := e6 _ _ h5
    refine Evl.s_retL (Evl.el_lcR1 (n := 13) (fun k => hit i k && (hit i 13 && true)) (fun k => .int (k : Int)) (Evl.ea_cons Evl.ev_c Evl.ea_nil) ⟨by decide, by decide⟩ (fun x => rfl) (fun k H7 e7 hk => ?_) (fun k H7 e7 hk _ => Evl.ev_var rfl)) fun p H8 hp e8 h8 => ?_
    · exact Evl.et_and (Evl.et_B (Evl.ev_op (Evl.ev_var rfl) (Evl.ev_var rfl) (Evl.rv_ixL (Evl.sq_of (e7 _ _ h6)) (atI_nat (hs k (by omega)))))) fun _ => Evl.et_B (Evl.ev_var rfl)
    · have e := ((((((e1.trans e2).trans e3).trans e4).trans e5).trans e6))
      refine q.go e hp e8 ?_
      rw [h8]
      have hg : Evl.given 13 (fun k => hit i k && (hit i 13 && true)) (fun k => V.int (k : Int)) = resM i := by
        rw [h13]
        have hh : ∀ i : Nat, i < 14 → Evl.given 13 (fun k => hit i k && (true && true)) (fun k => V.int (k : Int)) = resM i := by decide +kernel
        exact hh i hi
      exact congrArg (fun z => some (HO.lst z)) hg
end
end Lw
set_option Elab.async false
set_option linter.all false
set_option maxRecDepth 100000
set_option maxHeartbeats 4000000
namespace Lw
open PySem PySem.Spec PyProof.Rows L2 ExV
abbrev Fs := Option (List (Str × V))
/-- exceptions of these classes, with these fields -/
def Xs (H : Hp) (xs : List V) (Ds : List (Addr × Fs)) : Prop := Paired (fun x d => ∃ a, x = V.ref a ∧ Exc H a d.1 d.2) xs Ds
theorem Xs.mono {H H' : Hp} {xs : List V} {Ds : List (Addr × Fs)} (e : Ex H H') (h : Xs H xs Ds) : Xs H' xs Ds := Paired.mapP h fun x d ⟨a, ea, hx⟩ => ⟨a, ea, hx.mono e⟩
theorem Xs.append {H : Hp} : ∀ {xs ys : List V} {Ds Es : List (Addr × Fs)}, Xs H xs Ds → Xs H ys Es → Xs H (xs ++ ys) (Ds ++ Es)
  | _, _, _, _, .nil, s => s
  | _, _, _, _, .cons r t, s => .cons r (Xs.append t s)
theorem Xs.length {H : Hp} {xs : List V} {Ds : List (Addr × Fs)} (h : Xs H xs Ds) : xs.length = Ds.length := Paired.length h
theorem Xs.get {H : Hp} : ∀ {xs : List V} {Ds : List (Addr × Fs)} {i : Nat} {x : V}, Xs H xs Ds → xs[i]? = some x → ∃ a d, Ds[i]? = some d ∧ x = .ref a ∧ Exc H a d.1 d.2
  | _, _, _, _, .nil, h => by simp at h
  | _, _, 0, x, .cons ⟨a, ea, hx⟩ _, h => by
    have e := Option.some.inj (show some _ = some x from h)
    exact ⟨a, _, rfl, e.symm.trans ea, hx⟩
  | _, _, i + 1, x, .cons _ t, h => by
    obtain ⟨a, d, h1, h2, h3⟩ := Xs.get (i := i) t (by simpa using h)
    exact ⟨a, d, by simpa using h1, h2, h3⟩
def Grp (H : Hp) (p : Addr) (Ds : List (Addr × Fs)) : Prop := ∃ xs, H p = some (.lst xs) ∧ Xs H xs Ds
theorem Grp.mono {H H' : Hp} {p : Addr} {Ds : List (Addr × Fs)} (e : Ex H H') (h : Grp H p Ds) : Grp H' p Ds := let ⟨xs, h1, h2⟩ := h; ⟨xs, e _ _ h1, h2.mono e⟩
def EvX (te : TE) (σ : L2.St) (H : Hp) (D : Addr) (fs : Fs) : Prop := ∀ H1, Ex H H1 → ∀ Q : VK, (∀ a H2, H1 a = none → Ex H1 H2 → Exc H2 a D fs → Q (.ref a) H2) → te σ H1 Q
def EvXs (ta : TA) (σ : L2.St) (H : Hp) (Ds : List (Addr × Fs)) : Prop := ∀ H1, Ex H H1 → ∀ Q : List V → Hp → Prop, (∀ xs H2, Ex H1 H2 → Xs H2 xs Ds → Q xs H2) → ta σ H1 Q
def EvG (te : TE) (σ : L2.St) (H : Hp) (Ds : List (Addr × Fs)) : Prop := ∀ H1, Ex H H1 → ∀ Q : VK, (∀ p H2, H1 p = none → Ex H1 H2 → Grp H2 p Ds → Q (.ref p) H2) → te σ H1 Q
section
variable {K : PySem.W.Frag} {σ : L2.St} {H : Hp} {ta : TA} {te tb : TE} {D C : Addr} {fs : Fs} {Ds Es : List (Addr × Fs)} {DD : Ends} {tz : TS}
theorem xs_nil : EvXs tNil σ H [] := fun H1 _ Q q => q [] H1 (Evl.Ex.refl _) .nil
theorem xs_cons (h : EvX te σ H D fs) (hr : EvXs ta σ H Ds) : EvXs (tCons te ta) σ H ((D, fs) :: Ds) := fun H1 e Q q =>
  h H1 e _ fun a H2 _ e2 hx => hr H2 (e.trans e2) _ fun xs H3 e3 h3 => q _ H3 (e2.trans e3) (.cons ⟨a, rfl, hx.mono e3⟩ h3)
theorem g_lst (h : EvXs ta σ H Ds) (hl : Ds.length ≤ 100000) : EvG (tLst ta) σ H Ds := fun H1 e Q q =>
  h H1 e _ fun xs H2 e2 h2 => ⟨Evl.sz_of (by rw [h2.length]; exact hl), fun p hp => q p _ (Evl.fresh_back e2 hp) (e2.trans (Evl.Ex.new hp)) ⟨xs, upd_same, h2.mono (Evl.Ex.new hp)⟩⟩
theorem g_cat {l : Addr} (ha : Evl.Ev te σ H (.ref l)) (hl : Grp H l Ds) (hb : EvG tb σ H Es) (hz : Ds.length + Es.length ≤ 100000) : EvG (tOp rCat te tb) σ H (Ds ++ Es) := fun H1 e Q q =>
  ha H1 e _ fun H2 e2 => hb H2 (e.trans e2) _ fun p H3 hp e3 h3 => by
    obtain ⟨xs, h1, x1⟩ := hl.mono ((e.trans e2).trans e3)
    obtain ⟨ys, h4, x4⟩ := h3
    exact ⟨l, p, xs, ys, rfl, rfl, h1, h4, Evl.sz_of (by rw [x1.length, x4.length]; exact hz), fun r hr => q r _ (Evl.fresh_back (e2.trans e3) hr) ((e2.trans e3).trans (Evl.Ex.new hr)) ⟨xs ++ ys, upd_same, (x1.append x4).mono (Evl.Ex.new hr)⟩⟩
theorem q_asgG {i : Nat} (h : EvG te σ H Ds) (k : ∀ p H1, H p = none → Ex H H1 → Grp H1 p Ds → tz DD (σ.set i (some (.ref p))) H1) : tSeq (tAsg te (gName i)) tz DD σ H := h H (Evl.Ex.refl _) _ k
theorem s_retG (h : EvG te σ H Ds) (k : ∀ p H1, H p = none → Ex H H1 → Grp H1 p Ds → DD.rt (.ref p) H1) : tRet te DD σ H := h H (Evl.Ex.refl _) _ k
theorem x_mk0 {vs : List V} (h : Evl.EvA ta σ H vs) (hl : vs.length ≤ 1000) : EvX (tMk0 C ta) σ H C none := fun H1 e Q q =>
  h H1 e _ fun H2 e2 => ⟨hl, fun a ha => q a _ (Evl.fresh_back e2 ha) (e2.trans (Evl.Ex.new ha)) upd_same⟩
theorem x_mkI {f : Str} {y : V} (h : Evl.EvA ta σ H [y]) : EvX (tMkI C f ta) σ H C (some [(f, y)]) := fun H1 e Q q =>
  h H1 e _ fun H2 e2 => ⟨y, rfl, fun a H3 ha e3 hx => q a H3 (Evl.fresh_back e2 ha) (e2.trans e3) hx⟩
end
/-- the promise's shape: such a group, new -/
def RetG (Ds : List (Addr × Fs)) (H : Hp) (Q : VK) : Prop := ∀ p H2, H p = none → Ex H H2 → Grp H2 p Ds → Q (.ref p) H2
theorem RetG.go {Ds : List (Addr × Fs)} {H H' H2 : Hp} {Q : VK} {p : Addr} (k : RetG Ds H Q) (e : Ex H H') (hp : H' p = none) (e2 : Ex H' H2) (h : Grp H2 p Ds) : Q (.ref p) H2 := k p H2 (Evl.fresh_back e hp) (e.trans e2) h
structure Plain (K : PySem.W.Frag) (cs : Nat → Addr) : Prop where
  nw : ∀ i, i < 14 → (i < 8 ∨ i = 13) → PySem.W.excIn K (cs i) [.type "ValueError", .type "Exception", .type "BaseException", .type "object"] "ValueError.__new__" = true
  kp : ∀ i, i < 14 → PySem.W.keepIn K (.ref (cs i)) = true
def fld (i : Nat) : Str := if i = 12 then "slot" else "reason"
structure Inis (P : Program) (w : World) (K : PySem.W.Frag) (mg : Str → Option Value) (base : Heap) (cs : Nat → Addr) : Prop where
  ini : ∀ i, 8 ≤ i → i < 13 → ∃ fI, IniC P w K mg base (cs i) fI (fld i)
abbrev sSimple : Stmt := topS 20
abbrev sEmpty : Stmt := topS 21
abbrev sPos : Stmt := topS 22
abbrev sKey : Stmt := topS 23
theorem scSimple : FnScope ["_law_text", "_law_first"] ["_law_text"] (defScope sSimple) := ⟨rfl, rfl, rfl, by decide +kernel, rfl, by decide +kernel, by decide +kernel⟩
theorem scEmpty : FnScope ["_law_first"] [] (defScope sEmpty) := ⟨rfl, rfl, rfl, by decide +kernel, rfl, by decide +kernel, by decide +kernel⟩
theorem scPos : FnScope ["_law_content", "_law_first"] ["_law_content"] (defScope sPos) := ⟨rfl, rfl, rfl, by decide +kernel, rfl, by decide +kernel, by decide +kernel⟩
theorem scKey : FnScope ["_law_content", "_law_first"] ["_law_content"] (defScope sKey) := ⟨rfl, rfl, rfl, by decide +kernel, rfl, by decide +kernel, by decide +kernel⟩
def grp8 (cs : Nat → Addr) : List (Addr × Fs) := [(cs 0, none), (cs 1, none), (cs 2, none), (cs 3, none), (cs 4, none), (cs 5, none), (cs 6, none), (cs 7, none)]
def grp5 (cs : Nat → Addr) (y : V) : List (Addr × Fs) := [(cs 8, some [("reason", y)]), (cs 9, some [("reason", y)]), (cs 10, some [("reason", y)]), (cs 11, some [("reason", y)]), (cs 12, some [("slot", y)])]
def spSimple (cs : Nat → Addr) : Sp := fun vs H Q _ => ∃ y, vs = [y] ∧ RetG (grp8 cs) H Q
def spEmpty (cs : Nat → Addr) : Sp := fun vs H Q _ => vs = [] ∧ RetG (grp8 cs) H Q
def spFive (cs : Nat → Addr) : Sp := fun vs H Q _ => ∃ y, vs = [y] ∧ RetG (grp5 cs y) H Q
section
variable {P : Program} {w : World} {K : PySem.W.Frag} {mg : Str → Option Value} {base : Heap} {cs : Nat → Addr}
theorem ok_simple {f : Addr} {fd : FuncData} (F : Fun K "_law_simple" "_law_simple" sSimple f fd) (C : Plain K cs) (G : Gls mg cs) : FnOk P w K mg base CX0 1 f fd ["_law_text"] (spSimple cs) := by
  refine F.ok scSimple (fun vs H Q E h => ?_) (fun cdv A outer s H vs Q E hr h => ?_)
  · obtain ⟨y, rfl, _⟩ := h
    rfl
  · obtain ⟨y, rfl, q⟩ := h
    refine ⟨_, pss_cons (ps_set (i := 1) scSimple.nd rfl (.inl rfl) (pe_lst
        (pa_cons (pe_mk1 (C.nw 0 (by decide) (by decide)) G.g0 (C.kp 0 (by decide)) (by rfl) (pa_cons (pv 0) pa_nil))
        (pa_cons (pe_mk1 (C.nw 1 (by decide) (by decide)) G.g1 (C.kp 1 (by decide)) (by rfl) (pa_cons (pv 0) pa_nil))
        (pa_cons (pe_mk1 (C.nw 2 (by decide) (by decide)) G.g2 (C.kp 2 (by decide)) (by rfl) (pa_cons (pv 0) pa_nil))
        (pa_cons (pe_mk1 (C.nw 3 (by decide) (by decide)) G.g3 (C.kp 3 (by decide)) (by rfl) (pa_cons (pv 0) pa_nil))
        (pa_cons (pe_mk1 (C.nw 4 (by decide) (by decide)) G.g4 (C.kp 4 (by decide)) (by rfl) (pa_cons (pv 0) pa_nil)) pa_nil)))))))
      (pss_one (ps_ret (pe_op op_cat (pv 1) (pe_lst
        (pa_cons (pe_mk1 (C.nw 5 (by decide) (by decide)) G.g5 (C.kp 5 (by decide)) (by rfl) (pa_cons (pv 0) pa_nil))
        (pa_cons (pe_mk1 (C.nw 6 (by decide) (by decide)) G.g6 (C.kp 6 (by decide)) (by rfl) (pa_cons (pv 0) pa_nil))
        (pa_cons (pe_mk1 (C.nw 7 (by decide) (by decide)) G.g7 (C.kp 7 (by decide)) (by rfl) (pa_cons (pv 0) pa_nil)) pa_nil))))))), ?_⟩
    have mk : ∀ {c : Addr} {σ : L2.St} {H0 : Hp}, σ[0]? = some (some y) → EvX (tMk0 c (tCons (tVar 0) tNil)) σ H0 c none := fun h0 => x_mk0 (vs := [y]) (Evl.ea_cons (Evl.ev_var h0) Evl.ea_nil) (by show 1 ≤ 1000; decide)
    refine q_asgG (g_lst (xs_cons (mk rfl) (xs_cons (mk rfl) (xs_cons (mk rfl) (xs_cons (mk rfl) (xs_cons (mk rfl) xs_nil))))) (by show 5 ≤ 100000; decide)) fun l H1 hl e1 g1 => ?_
    exact s_retG (g_cat (Evl.ev_var rfl) g1 (g_lst (xs_cons (mk rfl) (xs_cons (mk rfl) (xs_cons (mk rfl) xs_nil))) (by show 3 ≤ 100000; decide)) (by show 5 + 3 ≤ 100000; decide)) fun p H2 hp e2 g2 => q.go e1 hp e2 g2
theorem ok_empty {f : Addr} {fd : FuncData} (F : Fun K "_law_empty" "_law_empty" sEmpty f fd) (C : Plain K cs) (G : Gls mg cs) : FnOk P w K mg base CX0 1 f fd [] (spEmpty cs) := by
  refine F.ok scEmpty (fun vs H Q E h => ?_) (fun cdv A outer s H vs Q E hr h => ?_)
  · obtain ⟨rfl, _⟩ := h
    rfl
  · obtain ⟨rfl, q⟩ := h
    refine ⟨_, pss_cons (ps_set (i := 0) scEmpty.nd rfl (.inl rfl) (pe_lst
        (pa_cons (pe_mk0 (C.nw 0 (by decide) (by decide)) G.g0 (C.kp 0 (by decide)) (by rfl))
        (pa_cons (pe_mk0 (C.nw 1 (by decide) (by decide)) G.g1 (C.kp 1 (by decide)) (by rfl))
        (pa_cons (pe_mk0 (C.nw 2 (by decide) (by decide)) G.g2 (C.kp 2 (by decide)) (by rfl))
        (pa_cons (pe_mk0 (C.nw 3 (by decide) (by decide)) G.g3 (C.kp 3 (by decide)) (by rfl))
        (pa_cons (pe_mk0 (C.nw 4 (by decide) (by decide)) G.g4 (C.kp 4 (by decide)) (by rfl)) pa_nil)))))))
      (pss_one (ps_ret (pe_op op_cat (pv 0) (pe_lst
        (pa_cons (pe_mk0 (C.nw 5 (by decide) (by decide)) G.g5 (C.kp 5 (by decide)) (by rfl))
        (pa_cons (pe_mk0 (C.nw 6 (by decide) (by decide)) G.g6 (C.kp 6 (by decide)) (by rfl))
        (pa_cons (pe_mk0 (C.nw 7 (by decide) (by decide)) G.g7 (C.kp 7 (by decide)) (by rfl)) pa_nil))))))), ?_⟩
    have mk : ∀ {c : Addr} {σ : L2.St} {H0 : Hp}, EvX (tMk0 c tNil) σ H0 c none := x_mk0 (vs := []) Evl.ea_nil (by decide)
    refine q_asgG (g_lst (xs_cons mk (xs_cons mk (xs_cons mk (xs_cons mk (xs_cons mk xs_nil))))) (by show 5 ≤ 100000; decide)) fun l H1 hl e1 g1 => ?_
    exact s_retG (g_cat (Evl.ev_var rfl) g1 (g_lst (xs_cons mk (xs_cons mk (xs_cons mk xs_nil))) (by show 3 ≤ 100000; decide)) (by show 5 + 3 ≤ 100000; decide)) fun p H2 hp e2 g2 => q.go e1 hp e2 g2
theorem ok_pos {f : Addr} {fd : FuncData} (F : Fun K "_law_by_position" "_law_by_position" sPos f fd) (I : Inis P w K mg base cs) (G : Gls mg cs) : FnOk P w K mg base CX0 3 f fd ["_law_content"] (spFive cs) := by
  obtain ⟨i8, Z8⟩ := I.ini 8 (by decide) (by decide)
  obtain ⟨i9, Z9⟩ := I.ini 9 (by decide) (by decide)
  obtain ⟨i10, Z10⟩ := I.ini 10 (by decide) (by decide)
  obtain ⟨i11, Z11⟩ := I.ini 11 (by decide) (by decide)
  obtain ⟨i12, Z12⟩ := I.ini 12 (by decide) (by decide)
  refine F.ok scPos (fun vs H Q E h => ?_) (fun cdv A outer s H vs Q E hr h => ?_)
  · obtain ⟨y, rfl, _⟩ := h
    rfl
  · obtain ⟨y, rfl, q⟩ := h
    refine ⟨_, pss_cons (ps_set (i := 1) scPos.nd rfl (.inl rfl) (pe_lst
        (pa_cons (pe_mkI Z8 hr G.g8 (by rfl) (pa_cons (pv 0) pa_nil))
        (pa_cons (pe_mkI Z9 hr G.g9 (by rfl) (pa_cons (pv 0) pa_nil))
        (pa_cons (pe_mkI Z10 hr G.g10 (by rfl) (pa_cons (pv 0) pa_nil))
        (pa_cons (pe_mkI Z11 hr G.g11 (by rfl) (pa_cons (pv 0) pa_nil)) pa_nil))))))
      (pss_one (ps_ret (pe_op op_cat (pv 1) (pe_lst (pa_cons (pe_mkI Z12 hr G.g12 (by rfl) (pa_cons (pv 0) pa_nil)) pa_nil))))), ?_⟩
    have mk : ∀ {c : Addr} {f : Str} {σ : L2.St} {H0 : Hp}, σ[0]? = some (some y) → EvX (tMkI c f (tCons (tVar 0) tNil)) σ H0 c (some [(f, y)]) := fun h0 => x_mkI (Evl.ea_cons (Evl.ev_var h0) Evl.ea_nil)
    refine q_asgG (g_lst (xs_cons (mk rfl) (xs_cons (mk rfl) (xs_cons (mk rfl) (xs_cons (mk rfl) xs_nil)))) (by show 4 ≤ 100000; decide)) fun l H1 hl e1 g1 => ?_
    exact s_retG (g_cat (Evl.ev_var rfl) g1 (g_lst (xs_cons (mk rfl) xs_nil) (by show 1 ≤ 100000; decide)) (by show 4 + 1 ≤ 100000; decide)) fun p H2 hp e2 g2 => q.go e1 hp e2 g2
theorem ok_key {f : Addr} {fd : FuncData} (F : Fun K "_law_by_keyword" "_law_by_keyword" sKey f fd) (I : Inis P w K mg base cs) (G : Gls mg cs) : FnOk P w K mg base CX0 3 f fd ["_law_content"] (spFive cs) := by
  obtain ⟨i8, Z8⟩ := I.ini 8 (by decide) (by decide)
  obtain ⟨i9, Z9⟩ := I.ini 9 (by decide) (by decide)
  obtain ⟨i10, Z10⟩ := I.ini 10 (by decide) (by decide)
  obtain ⟨i11, Z11⟩ := I.ini 11 (by decide) (by decide)
  obtain ⟨i12, Z12⟩ := I.ini 12 (by decide) (by decide)
  refine F.ok scKey (fun vs H Q E h => ?_) (fun cdv A outer s H vs Q E hr h => ?_)
  · obtain ⟨y, rfl, _⟩ := h
    rfl
  · obtain ⟨y, rfl, q⟩ := h
    refine ⟨_, pss_cons (ps_set (i := 1) scKey.nd rfl (.inl rfl) (pe_lst
        (pa_cons (pe_mkK Z8 hr G.g8 (by rfl) (pv 0))
        (pa_cons (pe_mkK Z9 hr G.g9 (by rfl) (pv 0))
        (pa_cons (pe_mkK Z10 hr G.g10 (by rfl) (pv 0)) pa_nil)))))
      (pss_one (ps_ret (pe_op op_cat (pv 1) (pe_lst (pa_cons (pe_mkK Z11 hr G.g11 (by rfl) (pv 0)) (pa_cons (pe_mkK Z12 hr G.g12 (by rfl) (pv 0)) pa_nil)))))), ?_⟩
    have mk : ∀ {c : Addr} {f : Str} {σ : L2.St} {H0 : Hp}, σ[0]? = some (some y) → EvX (tMkI c f (tCons (tVar 0) tNil)) σ H0 c (some [(f, y)]) := fun h0 => x_mkI (Evl.ea_cons (Evl.ev_var h0) Evl.ea_nil)
    refine q_asgG (g_lst (xs_cons (mk rfl) (xs_cons (mk rfl) (xs_cons (mk rfl) xs_nil))) (by show 3 ≤ 100000; decide)) fun l H1 hl e1 g1 => ?_
    exact s_retG (g_cat (Evl.ev_var rfl) g1 (g_lst (xs_cons (mk rfl) (xs_cons (mk rfl) xs_nil)) (by show 2 ≤ 100000; decide)) (by show 3 + 2 ≤ 100000; decide)) fun p H2 hp e2 g2 => q.go e1 hp e2 g2
end
end Lw
set_option Elab.async false
set_option linter.all false
set_option maxRecDepth 100000
set_option maxHeartbeats 4000000
/-! data over the layer: what is told of a value by a part F of the heap that nobody changes any more; H is all that is tracked (F and what is still changed) -/
namespace Dl
open PySem PySem.Spec PyProof.Rows L2
abbrev D := PyData
abbrev Ex := @Evl.Ex
mutual
inductive Tl (F : Hp) : V → D → Prop
  | non : Tl F .non .none
  | bl (b : Bool) : Tl F (.bl b) (.bool b)
  | int (i : Int) : Tl F (.int i) (.int i)
  | str (x : Str) : Tl F (.str x) (.str x)
  | lst {a : Addr} {xs : List V} {ds : List D} : F a = some (.lst xs) → TlAll F xs ds → Tl F (.ref a) (.list ds)
  | tup {a : Addr} {xs : List V} {ds : List D} : F a = some (.tup xs) → TlAll F xs ds → Tl F (.ref a) (.tuple ds)
inductive TlAll (F : Hp) : List V → List D → Prop
  | nil : TlAll F [] []
  | cons {v : V} {vs : List V} {d : D} {ds : List D} : Tl F v d → TlAll F vs ds → TlAll F (v :: vs) (d :: ds)
end
mutual
theorem Tl.mono {F G : Hp} (e : Ex F G) : ∀ {v : V} {d : D}, Tl F v d → Tl G v d
  | _, _, .non => .non
  | _, _, .bl b => .bl b
  | _, _, .int i => .int i
  | _, _, .str x => .str x
  | _, _, .lst h t => .lst (e _ _ h) (TlAll.mono e t)
  | _, _, .tup h t => .tup (e _ _ h) (TlAll.mono e t)
theorem TlAll.mono {F G : Hp} (e : Ex F G) : ∀ {vs : List V} {ds : List D}, TlAll F vs ds → TlAll G vs ds
  | _, _, .nil => .nil
  | _, _, .cons h t => .cons (Tl.mono e h) (TlAll.mono e t)
end
mutual
theorem Tl.dp {K : PySem.W.Frag} {F : Hp} : ∀ {v : V} {d : D}, Tl F v d → Dp K F v d
  | _, _, .non => .non
  | _, _, .bl b => .bl b
  | _, _, .int i => .int i
  | _, _, .str x => .str x
  | _, _, .lst h t => .lst (.inl (.inl h)) (TlAll.dp t)
  | _, _, .tup h t => .tup (.inl (.inl h)) (TlAll.dp t)
theorem TlAll.dp {K : PySem.W.Frag} {F : Hp} : ∀ {vs : List V} {ds : List D}, TlAll F vs ds → DpAll K F vs ds
  | _, _, .nil => .nil
  | _, _, .cons h t => .cons (Tl.dp h) (TlAll.dp t)
end
theorem TlAll.length {F : Hp} : ∀ {vs : List V} {ds : List D}, TlAll F vs ds → vs.length = ds.length
  | _, _, .nil => rfl
  | _, _, .cons _ t => congrArg Nat.succ (TlAll.length t)
theorem TlAll.append {F : Hp} : ∀ {vs ws : List V} {ds es : List D}, TlAll F vs ds → TlAll F ws es → TlAll F (vs ++ ws) (ds ++ es)
  | _, _, _, _, .nil, s => s
  | _, _, _, _, .cons h t, s => .cons h (TlAll.append t s)
theorem TlAll.get {F : Hp} : ∀ {vs : List V} {ds : List D} {i : Nat} {d : D}, TlAll F vs ds → ds[i]? = some d → ∃ v, vs[i]? = some v ∧ Tl F v d
  | _, _, _, _, .nil, h => by simp at h
  | _, _, 0, d, .cons h _, e => by
    have z := Option.some.inj (show some _ = some d from e)
    exact ⟨_, rfl, z ▸ h⟩
  | _, _, i + 1, d, .cons _ t, e => by
    obtain ⟨v, h1, h2⟩ := TlAll.get (i := i) t (by simpa using e)
    exact ⟨v, by simpa using h1, h2⟩
theorem TlAll.getV {F : Hp} : ∀ {vs : List V} {ds : List D} {i : Nat} {v : V}, TlAll F vs ds → vs[i]? = some v → ∃ d, ds[i]? = some d ∧ Tl F v d
  | _, _, _, _, .nil, h => by simp at h
  | _, _, 0, v, .cons h _, e => by
    have z := Option.some.inj (show some _ = some v from e)
    exact ⟨_, rfl, z ▸ h⟩
  | _, _, i + 1, v, .cons _ t, e => by
    obtain ⟨d, h1, h2⟩ := TlAll.getV (i := i) t (by simpa using e)
    exact ⟨d, by simpa using h1, h2⟩
theorem TlAll.take {F : Hp} : ∀ {vs : List V} {ds : List D} (n : Nat), TlAll F vs ds → TlAll F (vs.take n) (ds.take n)
  | _, _, 0, _ => by
    rw [List.take_zero, List.take_zero]
    exact .nil
  | _, _, _ + 1, .nil => .nil
  | _, _, n + 1, .cons h t => .cons h (TlAll.take n t)
theorem TlAll.drop {F : Hp} : ∀ {vs : List V} {ds : List D} (n : Nat), TlAll F vs ds → TlAll F (vs.drop n) (ds.drop n)
  | _, _, 0, h => h
  | _, _, _ + 1, .nil => .nil
  | _, _, n + 1, .cons _ t => TlAll.drop n t
/-- what is new in G is new -/
def Nw (H F G : Hp) : Prop := ∀ b, F b = none → H b ≠ none → G b = none
theorem Nw.refl {H F : Hp} : Nw H F F := fun _ h _ => h
theorem Nw.trans {H H2 F G G2 : Hp} (a : Nw H F G) (e : Ex H H2) (b : Nw H2 G G2) : Nw H F G2 := fun c h1 h2 => b c (a c h1 h2) (by
  cases q : H c with
  | none => exact absurd q h2
  | some o =>
    rw [e c o q]
    exact fun z => nomatch z)
theorem Nw.upd {H F : Hp} {p : Addr} {o : HO} (hp : H p = none) : Nw H F (L2.upd F p o) := fun b h1 h2 => by
  rw [upd_ne (fun z => h2 (by rw [z]; exact hp))]
  exact h1
/-- a step of the two heaps: nothing of both is changed, what is new in F is new -/
structure Stp (F H F' H' : Hp) : Prop where
  f : Ex F F'
  h : Ex H H'
  i : Ex F' H'
  n : Nw H F F'
theorem Stp.refl {F H : Hp} (i : Ex F H) : Stp F H F H := ⟨Evl.Ex.refl _, Evl.Ex.refl _, i, Nw.refl⟩
theorem Stp.trans {F H F1 H1 F2 H2 : Hp} (a : Stp F H F1 H1) (b : Stp F1 H1 F2 H2) : Stp F H F2 H2 := ⟨a.f.trans b.f, a.h.trans b.h, b.i, a.n.trans a.h b.n⟩
/-- a new object, shared from the start -/
theorem Stp.new {F H : Hp} {p : Addr} {o : HO} (i : Ex F H) (hp : H p = none) : Stp F H (upd F p o) (upd H p o) := by
  have fp : F p = none := Evl.fresh_back i hp
  refine ⟨Evl.Ex.new fp, Evl.Ex.new hp, fun a u e => ?_, Nw.upd hp⟩
  by_cases z : a = p
  · subst z
    rw [upd_same] at e
    rw [upd_same]
    exact e
  · rw [upd_ne z] at e
    rw [upd_ne z]
    exact i a u e
/-- a new object that H alone knows -/
theorem Stp.hid {F H : Hp} {p : Addr} {o : HO} (i : Ex F H) (hp : H p = none) : Stp F H F (upd H p o) := ⟨Evl.Ex.refl _, Evl.Ex.new hp, i.trans (Evl.Ex.new hp), Nw.refl⟩
/-- te is evaluated to the data d -/
def Ev (te : TE) (σ : L2.St) (F : Hp) (d : D) : Prop := ∀ F1 H1, Ex F F1 → Ex F1 H1 → ∀ Q : VK, (∀ x F2 H2, Stp F1 H1 F2 H2 → Tl F2 x d → Q x H2) → te σ H1 Q
def EvA (ta : TA) (σ : L2.St) (F : Hp) (ds : List D) : Prop := ∀ F1 H1, Ex F F1 → Ex F1 H1 → ∀ Q : List V → Hp → Prop, (∀ xs F2 H2, Stp F1 H1 F2 H2 → TlAll F2 xs ds → Q xs H2) → ta σ H1 Q
def EvT (tt : TT) (σ : L2.St) (F : Hp) (b : Bool) : Prop := ∀ F1 H1, Ex F F1 → Ex F1 H1 → ∀ Q : Bool → Hp → Prop, (∀ F2 H2, Stp F1 H1 F2 H2 → Q b H2) → tt σ H1 Q
section
variable {K : PySem.W.Frag} {σ : L2.St} {F G H : Hp} {ta : TA} {te tb tx : TE} {t u : TT} {x y : V} {d d1 d2 : D} {ds es : List D} {r : R2}
theorem Ev.mono (e : Ex F G) (h : Ev te σ F d) : Ev te σ G d := fun F1 H1 a b => h F1 H1 (e.trans a) b
theorem EvA.mono (e : Ex F G) (h : EvA ta σ F ds) : EvA ta σ G ds := fun F1 H1 a b => h F1 H1 (e.trans a) b
theorem EvT.mono {b : Bool} (e : Ex F G) (h : EvT t σ F b) : EvT t σ G b := fun F1 H1 a c => h F1 H1 (e.trans a) c
theorem var {i : Nat} (h : σ[i]? = some (some x)) (ht : Tl F x d) : Ev (tVar i) σ F d := fun F1 H1 a b Q q => ⟨x, h, q x F1 H1 (.refl b) (ht.mono a)⟩
theorem int {i : Int} : Ev (tC (.int i)) σ F (.int i) := fun F1 H1 _ b Q q => q _ F1 H1 (.refl b) (.int i)
theorem str {s : Str} : Ev (tC (.str s)) σ F (.str s) := fun F1 H1 _ b Q q => q _ F1 H1 (.refl b) (.str s)
theorem bl {c : Bool} : Ev (tC (.bl c)) σ F (.bool c) := fun F1 H1 _ b Q q => q _ F1 H1 (.refl b) (.bl c)
theorem non : Ev (tC .non) σ F .none := fun F1 H1 _ b Q q => q _ F1 H1 (.refl b) .non
theorem nil : EvA tNil σ F [] := fun F1 H1 _ b Q q => q _ F1 H1 (.refl b) .nil
theorem cons (h : Ev te σ F d) (hr : EvA ta σ F ds) : EvA (tCons te ta) σ F (d :: ds) := fun F1 H1 a b Q q =>
  h F1 H1 a b _ fun x F2 H2 s hx => hr F2 H2 (a.trans s.f) s.i _ fun xs F3 H3 s3 hs => q _ F3 H3 (s.trans s3) (.cons (hx.mono s3.f) hs)
theorem lst (h : EvA ta σ F ds) (hl : ds.length ≤ 100000) : Ev (tLst ta) σ F (.list ds) := fun F1 H1 a b Q q =>
  h F1 H1 a b _ fun xs F2 H2 s hs => ⟨Evl.sz_of (by rw [hs.length]; exact hl), fun p hp => q _ (upd F2 p (.lst xs)) _ (s.trans (.new s.i hp)) (.lst upd_same (hs.mono (Stp.new (o := .lst xs) s.i hp).f))⟩
theorem tup (h : EvA ta σ F ds) (hl : ds.length ≤ 100000) : Ev (tTup ta) σ F (.tuple ds) := fun F1 H1 a b Q q =>
  h F1 H1 a b _ fun xs F2 H2 s hs => ⟨Evl.sz_of (by rw [hs.length]; exact hl), fun p hp => q _ (upd F2 p (.tup xs)) _ (s.trans (.new s.i hp)) (.tup upd_same (hs.mono (Stp.new (o := .tup xs) s.i hp).f))⟩
/-- an operation on data -/
def RV (r : R2) (d1 d2 d : D) : Prop := ∀ F1 H1, Ex F1 H1 → ∀ x y, Tl F1 x d1 → Tl F1 y d2 → ∀ Q : VK, (∀ z F2 H2, Stp F1 H1 F2 H2 → Tl F2 z d → Q z H2) → r x y H1 Q
theorem op (ha : Ev te σ F d1) (hb : Ev tb σ F d2) (hr : RV r d1 d2 d) : Ev (tOp r te tb) σ F d := fun F1 H1 a b Q q =>
  ha F1 H1 a b _ fun x F2 H2 s hx => hb F2 H2 (a.trans s.f) s.i _ fun y F3 H3 s3 hy => hr F3 H3 s3.i x y (hx.mono s3.f) hy Q fun z F4 H4 s4 hz => q z F4 H4 ((s.trans s3).trans s4) hz
/-- a call on data -/
def RC (r : List V → Hp → VK → Prop) (ds : List D) (d : D) : Prop := ∀ F1 H1, Ex F1 H1 → ∀ xs, TlAll F1 xs ds → ∀ Q : VK, (∀ z F2 H2, Stp F1 H1 F2 H2 → Tl F2 z d → Q z H2) → r xs H1 Q
theorem call {r : List V → Hp → VK → Prop} (h : EvA ta σ F ds) (hr : RC r ds d) : Ev (tCB r ta) σ F d := fun F1 H1 a b Q q =>
  h F1 H1 a b _ fun xs F2 H2 s hs => hr F2 H2 s.i xs hs Q fun z F3 H3 s3 hz => q z F3 H3 (s.trans s3) hz
theorem test {c : Bool} (h : Ev te σ F (.bool c)) : EvT (tTest te) σ F c := fun F1 H1 a b Q q => h F1 H1 a b _ fun x F2 H2 s hx => by
  cases hx
  exact ⟨c, rfl, q F2 H2 s⟩
theorem testB {c : Bool} (h : Ev te σ F (.bool c)) : EvT (tB te) σ F c := fun F1 H1 a b Q q => h F1 H1 a b _ fun x F2 H2 s hx => by
  cases hx
  exact ⟨c, rfl, q F2 H2 s⟩
theorem tand {a b : Bool} (h1 : EvT t σ F a) (h2 : a = true → EvT u σ F b) : EvT (tAnd t u) σ F (a && b) := fun F1 H1 e i Q q => h1 F1 H1 e i _ fun F2 H2 s => by
  cases a with
  | true =>
    show u σ H2 Q
    exact h2 rfl F2 H2 (e.trans s.f) s.i Q fun F3 H3 s3 => q F3 H3 (s.trans s3)
  | false =>
    show Q false H2
    exact q F2 H2 s
theorem tor {a b : Bool} (h1 : EvT t σ F a) (h2 : a = false → EvT u σ F b) : EvT (tOr t u) σ F (a || b) := fun F1 H1 e i Q q => h1 F1 H1 e i _ fun F2 H2 s => by
  cases a with
  | true =>
    show Q true H2
    exact q F2 H2 s
  | false =>
    show u σ H2 Q
    exact h2 rfl F2 H2 (e.trans s.f) s.i Q fun F3 H3 s3 => q F3 H3 (s.trans s3)
theorem tnot {a : Bool} (h1 : EvT t σ F a) : EvT (tNot t) σ F (!a) := fun F1 H1 e i Q q => h1 F1 H1 e i _ fun F2 H2 s => q F2 H2 s
theorem andV {a b : Bool} (h1 : Ev te σ F (.bool a)) (h2 : a = true → Ev tb σ F (.bool b)) : Ev (tAndV te tb) σ F (.bool (a && b)) := fun F1 H1 e i Q q => h1 F1 H1 e i _ fun x F2 H2 s hx => by
  cases hx
  refine ⟨a, rfl, ?_⟩
  cases a with
  | true =>
    show tb σ H2 Q
    exact h2 rfl F2 H2 (e.trans s.f) s.i Q fun y F3 H3 s3 hy => q y F3 H3 (s.trans s3) hy
  | false =>
    show Q (.bl false) H2
    exact q _ F2 H2 s (.bl false)
theorem orV {a b : Bool} (h1 : Ev te σ F (.bool a)) (h2 : a = false → Ev tb σ F (.bool b)) : Ev (tOrV te tb) σ F (.bool (a || b)) := fun F1 H1 e i Q q => h1 F1 H1 e i _ fun x F2 H2 s hx => by
  cases hx
  refine ⟨a, rfl, ?_⟩
  cases a with
  | true =>
    show Q (.bl true) H2
    exact q _ F2 H2 s (.bl true)
  | false =>
    show tb σ H2 Q
    exact h2 rfl F2 H2 (e.trans s.f) s.i Q fun y F3 H3 s3 hy => q y F3 H3 (s.trans s3) hy
theorem notV {a : Bool} (h1 : Ev te σ F (.bool a)) : Ev (tNotV te) σ F (.bool (!a)) := fun F1 H1 e i Q q => h1 F1 H1 e i _ fun x F2 H2 s hx => by
  cases hx
  exact ⟨a, rfl, q _ F2 H2 s (.bl _)⟩
theorem ifE {b : Bool} (h : EvT t σ F b) (h1 : b = true → Ev te σ F d) (h2 : b = false → Ev tb σ F d) : Ev (tIf t te tb) σ F d := fun F1 H1 e i Q q => h F1 H1 e i _ fun F2 H2 s => by
  cases b with
  | true =>
    show te σ H2 Q
    exact h1 rfl F2 H2 (e.trans s.f) s.i Q fun y F3 H3 s3 hy => q y F3 H3 (s.trans s3) hy
  | false =>
    show tb σ H2 Q
    exact h2 rfl F2 H2 (e.trans s.f) s.i Q fun y F3 H3 s3 hy => q y F3 H3 (s.trans s3) hy
theorem is_ (h : Ev te σ F d1) (e : d1 = d) : Ev te σ F d := e ▸ h
theorem tis {a b : Bool} (h : EvT t σ F a) (e : a = b) : EvT t σ F b := e ▸ h
/-! operations -/
theorem rI0i {g : Int → Int → Int} {i j : Int} : RV (rI0 fun i j => .int (g i j)) (.int i) (.int j) (.int (g i j)) := fun F1 H1 e x y hx hy Q q => by
  cases hx
  cases hy
  exact ⟨i, j, rfl, rfl, q _ F1 H1 (.refl e) (.int _)⟩
theorem rI0b {g : Int → Int → Bool} {i j : Int} : RV (rI0 fun i j => .bl (g i j)) (.int i) (.int j) (.bool (g i j)) := fun F1 H1 e x y hx hy Q q => by
  cases hx
  cases hy
  exact ⟨i, j, rfl, rfl, q _ F1 H1 (.refl e) (.bl _)⟩
theorem rIi {C : Int → Int → Prop} {g : Int → Int → Int} {i j : Int} (hc : C i j) : RV (rI C fun i j => .int (g i j)) (.int i) (.int j) (.int (g i j)) := fun F1 H1 e x y hx hy Q q => by
  cases hx
  cases hy
  exact ⟨i, j, rfl, rfl, hc, q _ F1 H1 (.refl e) (.int _)⟩
theorem eqD (h1 : SeqAt.shaped d1 = true) (h2 : SeqAt.shaped d2 = true) : RV (rEqD K) d1 d2 (.bool (PyData.eqv d1 d2)) := fun F1 H1 e x y hx hy Q q =>
  ⟨d1, d2, (hx.mono e).dp, (hy.mono e).dp, h1, h2, q _ F1 H1 (.refl e) (.bl _)⟩
theorem neD (h1 : SeqAt.shaped d1 = true) (h2 : SeqAt.shaped d2 = true) : RV (rNeD K) d1 d2 (.bool (!PyData.eqv d1 d2)) := fun F1 H1 e x y hx hy Q q =>
  ⟨d1, d2, (hx.mono e).dp, (hy.mono e).dp, h1, h2, q _ F1 H1 (.refl e) (.bl _)⟩
theorem cat (hz : ds.length + es.length ≤ 100000) : RV rCat (.list ds) (.list es) (.list (ds ++ es)) := fun F1 H1 e x y hx hy Q q => by
  cases hx with
  | lst h1 t1 =>
    cases hy with
    | lst h2 t2 =>
      exact ⟨_, _, _, _, rfl, rfl, e _ _ h1, e _ _ h2, Evl.sz_of (by rw [t1.length, t2.length]; exact hz), fun p hp => q _ _ _ (.new e hp) (.lst upd_same ((t1.append t2).mono (Stp.new (o := .lst _) e hp).f))⟩
theorem ixL {i : Nat} (h : ds[i]? = some d) : RV (rIxL K) (.list ds) (.int (i : Int)) d := fun F1 H1 e x y hx hy Q q => by
  cases hx with
  | lst h1 t1 =>
    cases hy
    obtain ⟨v, hv, tv⟩ := t1.get h
    exact ⟨_, _, _, v, rfl, rfl, .inl (.inl (e _ _ h1)), atI_nat hv, q v F1 H1 (.refl e) tv⟩
theorem ixT {i : Nat} (h : ds[i]? = some d) : RV (rIxT K) (.tuple ds) (.int (i : Int)) d := fun F1 H1 e x y hx hy Q q => by
  cases hx with
  | tup h1 t1 =>
    cases hy
    obtain ⟨v, hv, tv⟩ := t1.get h
    exact ⟨_, _, _, v, rfl, rfl, .inl (.inl (e _ _ h1)), atI_nat hv, q v F1 H1 (.refl e) tv⟩
theorem lenL : RC (Evl.rLenS K) [.list ds] (.int (ds.length : Int)) := fun F1 H1 e xs hx Q q => by
  cases hx with
  | cons h t =>
    cases t
    cases h with
    | lst h1 t1 => exact ⟨_, _, rfl, .inl (.inl (.inl (e _ _ h1))), by rw [t1.length]; exact q _ F1 H1 (.refl e) (.int _)⟩
theorem lenT : RC (Evl.rLenS K) [.tuple ds] (.int (ds.length : Int)) := fun F1 H1 e xs hx Q q => by
  cases hx with
  | cons h t =>
    cases t
    cases h with
    | tup h1 t1 => exact ⟨_, _, rfl, .inr (.inl (.inl (e _ _ h1))), by rw [t1.length]; exact q _ F1 H1 (.refl e) (.int _)⟩
/-! statements -/
variable {DD : Ends} {tu tw tz : TS}
theorem q_asg {i : Nat} (h : Ev te σ F d) (b : Ex F H) (k : ∀ x F1 H1, Stp F H F1 H1 → Tl F1 x d → tz DD (σ.set i (some x)) H1) : tSeq (tAsg te (gName i)) tz DD σ H := h F H (Evl.Ex.refl _) b _ k
theorem s_asg {i : Nat} (h : Ev te σ F d) (b : Ex F H) (k : ∀ x F1 H1, Stp F H F1 H1 → Tl F1 x d → DD.nx (σ.set i (some x)) H1) : tAsg te (gName i) DD σ H := h F H (Evl.Ex.refl _) b _ k
theorem s_ret (h : Ev te σ F d) (b : Ex F H) (k : ∀ x F1 H1, Stp F H F1 H1 → Tl F1 x d → DD.rt x H1) : tRet te DD σ H := h F H (Evl.Ex.refl _) b _ k
theorem s_drop (h : Ev te σ F d) (b : Ex F H) (k : ∀ F1 H1, Stp F H F1 H1 → DD.nx σ H1) : tDrop te DD σ H := h F H (Evl.Ex.refl _) b _ fun _ F1 H1 s _ => k F1 H1 s
theorem s_if {c : Bool} (h : EvT t σ F c) (b : Ex F H) (h1 : c = true → ∀ F1 H1, Stp F H F1 H1 → tu DD σ H1) (h2 : c = false → ∀ F1 H1, Stp F H F1 H1 → tw DD σ H1) : tIfS t tu tw DD σ H := h F H (Evl.Ex.refl _) b _ fun F1 H1 s => by
  cases c with
  | true =>
    show tu DD σ H1
    exact h1 rfl F1 H1 s
  | false =>
    show tw DD σ H1
    exact h2 rfl F1 H1 s
theorem q_if {c : Bool} (h : EvT t σ F c) (b : Ex F H) (h1 : c = true → ∀ F1 H1, Stp F H F1 H1 → tu { DD with nx := tz DD } σ H1) (h2 : c = false → ∀ F1 H1, Stp F H F1 H1 → tw { DD with nx := tz DD } σ H1) : tSeq (tIfS t tu tw) tz DD σ H :=
  s_if (DD := { DD with nx := tz DD }) h b h1 h2
theorem q_when {c : Bool} (h : EvT t σ F c) (b : Ex F H) (h1 : c = true → ∀ F1 H1, Stp F H F1 H1 → tu { DD with nx := tz DD } σ H1) (h2 : c = false → ∀ F1 H1, Stp F H F1 H1 → tz DD σ H1) : tSeq (tIfS t tu tNext) tz DD σ H :=
  s_if (DD := { DD with nx := tz DD }) h b h1 h2
/-! comprehensions: the items that are kept, in order -/
def kept (n : Nat) (f : Nat → Bool) (g : Nat → D) : List D := ((List.range n).filter f).map g
theorem kept_yes {n : Nat} {f : Nat → Bool} {g : Nat → D} (h : f n = true) : kept (n + 1) f g = kept n f g ++ [g n] := by
  unfold kept
  simp [List.range_succ, List.filter_append, h]
theorem kept_no {n : Nat} {f : Nat → Bool} {g : Nat → D} (h : f n = false) : kept (n + 1) f g = kept n f g := by
  unfold kept
  simp [List.range_succ, List.filter_append, h]
theorem kept_len (n : Nat) (f : Nat → Bool) (g : Nat → D) : (kept n f g).length ≤ n := by
  have z := List.length_filter_le f (List.range n)
  unfold kept
  simpa using z
/-- between two turns: the list at p is hidden from F -/
def CW (F0 H0 : Hp) (f : Nat → Bool) (g : Nat → D) (p : Addr) (i : Nat) (H : Hp) : Prop := H0 p = none ∧ ∃ F xs, Ex F0 F ∧ Ex F H ∧ Ex H0 H ∧ Nw H0 F0 F ∧ F p = none ∧ H p = some (.lst xs) ∧ TlAll F xs (kept i f g)
theorem cw_turn {F0 H0 H' : Hp} {f : Nat → Bool} {g : Nat → D} {p : Addr} {i : Nat} {σ2 : L2.St} (h : CW F0 H0 f g p i H') (hi : i < 50000) (ht : ∀ F, Ex F0 F → EvT t σ2 F (f i)) (he : ∀ F, Ex F0 F → f i = true → Ev te σ2 F (g i)) :
    t σ2 H' fun b H3 => if b = true then te σ2 H3 fun y H4 => ∃ acc, H4 p = some (.lst acc) ∧ acc.length < sizeLine ∧ CW F0 H0 f g p (i + 1) (upd H4 p (.lst (acc ++ [y]))) else CW F0 H0 f g p (i + 1) H3 := by
  obtain ⟨hp, F, xs, e0, e1, e2, n0, fp, h1, ht1⟩ := h
  have ne : H' p ≠ none := by
    rw [h1]
    exact fun z => nomatch z
  refine ht F e0 F H' (Evl.Ex.refl _) e1 _ fun F3 H3 s3 => ?_
  have ne3 : H3 p ≠ none := by
    rw [s3.h _ _ h1]
    exact fun z => nomatch z
  cases hf : f i with
  | false =>
    show CW F0 H0 f g p (i + 1) H3
    refine ⟨hp, F3, xs, e0.trans s3.f, s3.i, e2.trans s3.h, n0.trans e2 s3.n, s3.n _ fp ne, s3.h _ _ h1, ?_⟩
    rw [kept_no hf]
    exact ht1.mono s3.f
  | true =>
    show te σ2 H3 fun y H4 => ∃ acc, H4 p = some (.lst acc) ∧ acc.length < sizeLine ∧ CW F0 H0 f g p (i + 1) (upd H4 p (.lst (acc ++ [y])))
    refine he F3 (e0.trans s3.f) hf F3 H3 (Evl.Ex.refl _) s3.i _ fun y F4 H4 s4 hy => ⟨xs, s4.h _ _ (s3.h _ _ h1), Evl.sz_lt (by rw [ht1.length]; have := kept_len i f g; omega), hp, F4, _, (e0.trans s3.f).trans s4.f, fun a o ha => ?_, Evl.Ex.mut ((e2.trans s3.h).trans s4.h) hp, (n0.trans e2 s3.n).trans (e2.trans s3.h) s4.n,
      s4.n _ (s3.n _ fp ne) ne3, upd_same, ?_⟩
    · have na : a ≠ p := fun z => by
        rw [z, s4.n _ (s3.n _ fp ne) ne3] at ha
        cases ha
      rw [upd_ne na]
      exact s4.i _ _ ha
    · rw [kept_yes hf]
      exact ((ht1.mono s3.f).mono s4.f).append (.cons hy .nil)
/-- what a list made so is worth behind: shared from now on -/
theorem cw_end {F0 H0 H' : Hp} {f : Nat → Bool} {g : Nat → D} {p : Addr} {n : Nat} (h : CW F0 H0 f g p n H') : ∃ F, Stp F0 H0 F H' ∧ Tl F (.ref p) (.list (kept n f g)) := by
  obtain ⟨hp, F, xs, e0, e1, e2, n0, fp, h1, ht1⟩ := h
  refine ⟨upd F p (.lst xs), ⟨e0.trans (Evl.Ex.new fp), e2, fun a o ha => ?_, fun b hb hb2 => ?_⟩, .lst upd_same (ht1.mono (Evl.Ex.new fp))⟩
  · by_cases z : a = p
    · subst z
      rw [upd_same] at ha
      cases ha
      exact h1
    · rw [upd_ne z] at ha
      exact e1 _ _ ha
  · have nb : b ≠ p := fun z => hb2 (by rw [z]; exact hp)
    rw [upd_ne nb]
    exact n0 b hb hb2
theorem cw_start {F0 H0 : Hp} {f : Nat → Bool} {g : Nat → D} {p : Addr} (e : Ex F0 H0) (hp : H0 p = none) : CW F0 H0 f g p 0 (upd H0 p (.lst [])) :=
  ⟨hp, F0, [], Evl.Ex.refl _, e.trans (Evl.Ex.new hp), Evl.Ex.new hp, Nw.refl, Evl.fresh_back e hp, upd_same, .nil⟩
theorem lcR1 {j : Nat} {vs : List Nat} {n : Int} (f : Nat → Bool) (g : Nat → D) (h : EvA ta σ F [.int n]) (hn : 0 ≤ n ∧ n ≤ 40000) (hw : ∀ x, wipe ((wipe σ vs).set j (some x)) vs = wipe σ vs)
    (ht : ∀ (i : Nat) G, Ex F G → (i : Int) < n → EvT t ((wipe σ vs).set j (some (.int (i : Int)))) G (f i)) (he : ∀ (i : Nat) G, Ex F G → (i : Int) < n → f i = true → Ev te ((wipe σ vs).set j (some (.int (i : Int)))) G (g i)) :
    Ev (tLc (iRng1 ta) (gName j) t te vs) σ F (.list (kept n.toNat f g)) := fun F0 H0 a b Q q => h F0 H0 a b _ fun xs F1 H1 s1 hx => by
  cases hx with
  | cons hv tl =>
    cases tl
    cases hv
    refine ⟨n, rfl, by omega, by omega, fun p hp => lc_range (lo := 0) (n := n.toNat) (CW F1 H1 f g p) (cw_start s1.i hp) (fun i H' hi w => ?_) (fun H' w => ?_)⟩
    · have e0 : (0 : Int) + (i : Int) = (i : Int) := Int.zero_add _
      rw [e0]
      exact ⟨hw _, cw_turn w (by omega) (fun G eg => ht i G ((a.trans s1.f).trans eg) (by omega)) (fun G eg hf => he i G ((a.trans s1.f).trans eg) (by omega) hf)⟩
    · obtain ⟨F2, s2, t2⟩ := cw_end w
      exact q _ F2 H' (s1.trans s2) t2
/-- over data that are a list -/
theorem lcL {tl : TE} {j : Nat} {vs : List Nat} (f : Nat → Bool) (g : Nat → D) (h : Ev tl σ F (.list ds)) (hz : ds.length ≤ 40000) (hw : ∀ x, wipe ((wipe σ vs).set j (some x)) vs = wipe σ vs)
    (ht : ∀ (i : Nat) (x : V) (d : D) G, Ex F G → ds[i]? = some d → Tl G x d → EvT t ((wipe σ vs).set j (some x)) G (f i)) (he : ∀ (i : Nat) (x : V) (d : D) G, Ex F G → ds[i]? = some d → Tl G x d → f i = true → Ev te ((wipe σ vs).set j (some x)) G (g i)) :
    Ev (tLc (iList K tl) (gName j) t te vs) σ F (.list (kept ds.length f g)) := fun F0 H0 a b Q q => h F0 H0 a b _ fun v F1 H1 s1 hx => by
  cases hx with
  | @lst l xs _ h1 t1 =>
    refine ⟨l, rfl, ⟨xs, .inl (.inl (s1.i _ _ h1))⟩, fun p hp => lc_list (xs := xs) (CW F1 H1 f g p) (cw_start s1.i hp) (fun i H' _ w => ?_) (fun i x H' hi w => ?_) (fun H' w => ?_)⟩
    · obtain ⟨_, F, ys, e0, e1, _⟩ := w
      exact .inl (.inl (e1 _ _ (e0 _ _ h1)))
    · have hl := t1.length
      have hil : i < xs.length := (List.getElem?_eq_some_iff.mp hi).1
      obtain ⟨d, hd, td⟩ := t1.getV hi
      exact ⟨hw x, cw_turn w (by omega) (fun G eg => ht i x d G ((a.trans s1.f).trans eg) hd (td.mono eg)) (fun G eg hf => he i x d G ((a.trans s1.f).trans eg) hd (td.mono eg) hf)⟩
    · rw [t1.length] at w
      obtain ⟨F2, s2, t2⟩ := cw_end w
      exact q _ F2 H' (s1.trans s2) t2
end
end Dl
set_option Elab.async false
set_option linter.all false
set_option maxRecDepth 100000
set_option maxHeartbeats 4000000
namespace Lw
open PySem PySem.Spec PyProof.Rows L2 ExV
abbrev sContents : Stmt := topS 24
abbrev sSame : Stmt := topS 25
theorem scContents : FnScope ["_law_source_here", "_law_great", "_law_k", "_law_contents_here"] ["_law_source_here"] (defScope sContents) := ⟨rfl, rfl, rfl, by decide +kernel, rfl, by decide +kernel, by decide +kernel⟩
theorem scSame : FnScope ["_law_one", "_law_other"] ["_law_one", "_law_other"] (defScope sSame) := ⟨rfl, rfl, rfl, by decide +kernel, rfl, by decide +kernel, by decide +kernel⟩
/-- data that == finds equal to itself -/
def Good (d : PyData) : Prop := SeqAt.shaped d = true ∧ PyData.eqv d d = true
def great : Int := (10 ^ 60) ^ 81
def contents (k : Int) : List PyData := [.none, .bool false, .bool true, .int 0, .int k, .int great, .int (0 - great), .str "", .str "slot", .tuple [], .list [], .tuple [.str "", .int 0], .tuple [.str "a", .int k], .tuple [.str "slot", .int k]] ++
  [.tuple [.str "items"], .tuple [.str "move", .int 3, .tuple [.str "kinds"]], .list [.int 1, .list [.int k]], .tuple [.str "", .int great], .tuple [.none], .tuple [.tuple [], .list []]] ++ [.str "{0}", .tuple [.str "{x}", .int 1, .int 2]]
theorem contents_good (k : Int) : ∀ d ∈ contents k, Good d := by
  intro d hd
  unfold contents at hd
  simp only [List.cons_append, List.nil_append, List.mem_cons, List.not_mem_nil, or_false] at hd
  rcases hd with rfl | rfl | rfl | rfl | rfl | rfl | rfl | rfl | rfl | rfl | rfl | rfl | rfl | rfl | rfl | rfl | rfl | rfl | rfl | rfl | rfl | rfl <;>
    refine ⟨?_, ?_⟩ <;> simp [SeqAt.shaped, PyData.canLay0, PyData.canLayAll0, PyData.depth, PyData.depthAll, PyData.eqv, PyData.eqvAll] <;> decide +kernel
def spContents : Sp := fun vs H Q _ => ∃ (S : Addr × Addr) (t : Nat), vs = [.ref S.1] ∧ Src H S t ∧ t < 2 ^ 40 ∧ ∀ (p : Addr) (k : Int) (H' : Hp), But S H H' → Dl.Tl H' (.ref p) (.list (contents k)) → Q (.ref p) H'
def spSame : Sp := fun vs H Q _ => ∃ (x : V) (d : PyData), vs = [x, x] ∧ Dl.Tl H x d ∧ Good d ∧ ∀ H', Ex H H' → Q (.bl true) H'
theorem great_bits (i : Nat) : ((10 ^ 60 : Int) ^ (i + 1)).natAbs < 2 ^ (200 * (i + 1)) := by
  have e : ((10 ^ 60 : Int) ^ (i + 1)).natAbs = (10 ^ 60) ^ (i + 1) := by
    rw [Int.natAbs_pow]
    rfl
  rw [e, Nat.pow_mul]
  exact Nat.pow_lt_pow_left (by decide +kernel) (Nat.succ_ne_zero i)
section
variable {P : Program} {w : World} {K : PySem.W.Frag} {mg : Str → Option Value} {base : Heap} {cs : Nat → Addr}
theorem ok_contents {f fD : Addr} {fd fdD : FuncData} (F : Fun K "_law_contents" "_law_contents" sContents f fd) (FD : Fun K "_law_draw" "_law_draw" sDraw fD fdD) (bD : Binds K fdD ["_law_source_here", "_law_limit"] []) (gD : mg "_law_draw" = some (.ref fD)) (ml : mg "len" = none) (mr : mg "range" = none) :
    FnOk P w K mg base CX0 2 f fd ["_law_source_here"] spContents := by
  have GD : FnOk P w K mg base CX0 1 fD fdD ["_law_source_here", "_law_limit"] (spDraw K) := ok_draw FD ml
  refine F.ok scContents (fun vs H Q E h => ?_) (fun cdv A outer s H vs Q E hr h => ?_)
  · obtain ⟨S, t, rfl, _⟩ := h
    rfl
  · obtain ⟨S, t, rfl, hS, ht, q⟩ := h
    have nd := scContents.nd
    refine ⟨_, pss_cons (ps_set (i := 1) nd rfl (.inl rfl) (pe_op op_powB pe_int pe_int))
      (pss_cons (ps_for PassesOwn.never rfl (pi_range1 (by rfl) mr (pa_cons pe_int pa_nil)) (pg_name (i := 2) nd rfl (.inl rfl))
        (pss_one (ps_set (i := 1) nd rfl (.inl rfl) (pe_op op_mulW (pv 1) (pe_op op_powB pe_int pe_int)))))
      (pss_cons (ps_set (i := 2) nd rfl (.inl rfl) (pe_call GD hr (by rfl) gD FD.kp bD .nil pass0 (pa_cons (pv 0) (pa_cons (pe_op op_powB pe_int pe_int) pa_nil))))
      (pss_cons (ps_set (i := 3) nd rfl (.inl rfl) (pe_lst (pa_cons pe_non (pa_cons pe_bl (pa_cons pe_bl (pa_cons pe_int (pa_cons (pv 2) (pa_cons (pv 1) (pa_cons (pe_op op_sub pe_int (pv 1)) (pa_cons pe_str (pa_cons pe_str (pa_cons (pe_tup pa_nil) (pa_cons (pe_lst pa_nil)
        (pa_cons (pe_tup (pa_cons pe_str (pa_cons pe_int pa_nil))) (pa_cons (pe_tup (pa_cons pe_str (pa_cons (pv 2) pa_nil))) (pa_cons (pe_tup (pa_cons pe_str (pa_cons (pv 2) pa_nil))) pa_nil))))))))))))))))
      (pss_cons (ps_set (i := 3) nd rfl (.inl rfl) (pe_op op_cat (pv 3) (pe_lst (pa_cons (pe_tup (pa_cons pe_str pa_nil)) (pa_cons (pe_tup (pa_cons pe_str (pa_cons pe_int (pa_cons (pe_tup (pa_cons pe_str pa_nil)) pa_nil))))
        (pa_cons (pe_lst (pa_cons pe_int (pa_cons (pe_lst (pa_cons (pv 2) pa_nil)) pa_nil))) (pa_cons (pe_tup (pa_cons pe_str (pa_cons (pv 1) pa_nil))) (pa_cons (pe_tup (pa_cons pe_non pa_nil)) (pa_cons (pe_tup (pa_cons (pe_tup pa_nil) (pa_cons (pe_lst pa_nil) pa_nil))) pa_nil)))))))))
      (pss_one (ps_ret (pe_op op_cat (pv 3) (pe_lst (pa_cons pe_str (pa_cons (pe_tup (pa_cons pe_str (pa_cons pe_int (pa_cons pe_int pa_nil)))) pa_nil)))))))))), ?_⟩
    refine Evl.q_asg (hiPow (by decide +kernel) rfl) fun H1 e1 => ?_
    refine Evl.q_forR1 (n := 80) (Evl.ea_cons Evl.ev_c Evl.ea_nil) ⟨by decide, by decide⟩
      (fun i σ' H' => ∃ y : Option V, σ' = [some (.ref S.1), some (.int ((10 ^ 60) ^ (i + 1))), y, none] ∧ Ex H H')
      (fun H2 e2 => ⟨none, by
        show [some (V.ref S.1), some (.int (10 ^ 60)), none, none] = _
        rw [show ((10 : Int) ^ 60) ^ (0 + 1) = 10 ^ 60 from Int.pow_one _], e1.trans e2⟩) (fun i σ' H' hi hP => ?_) (fun σ' H' hP => ?_)
    · obtain ⟨y, rfl, e2⟩ := hP
      refine Evl.s_asg (v := .int ((10 ^ 60) ^ (i + 1 + 1))) (Evl.ev_is (Evl.ev_op (Evl.ev_var rfl) (hiPow (by decide +kernel) rfl) (Evl.rv_I (show CMulW ((10 ^ 60) ^ (i + 1)) (10 ^ 60) from wide_mul (great_bits i) (great_bits 0) (by omega) (by decide) (by omega)))) (by
          rw [Int.pow_succ ((10 : Int) ^ 60) (i + 1)]
          rfl)) fun H3 e3 => ⟨_, rfl, e2.trans e3⟩
    · obtain ⟨y, rfl, e2⟩ := hP
      -- the draw
      refine ⟨_, rfl, _, _, rfl, rfl, (by decide +kernel : 0 ≤ (9 : Int) ∧ (Builtin.Int.intBits 10 : Int) * 9 ≤ 2 ^ 27), S, t, 10 ^ 9, rfl, hS.mono e2, ht, by decide, ?_, fun k H3 hb _ k0 kL => ?_⟩
      · exact Nat.lt_of_lt_of_le (by decide : (10 ^ 9 : Int).natAbs < 2 ^ 30) (Nat.pow_le_pow_right (by decide) (by decide))
      have eg : ((10 : Int) ^ 60) ^ (Int.toNat 80 + 1) = great := rfl
      rw [eg]
      have hb0 : But S H H3 := (But.of e2).trans hb
      have bb : Ex H3 H3 := Evl.Ex.refl _
      have vk : ∀ {σ : L2.St} {G : Hp}, σ[2]? = some (some (.int k)) → Dl.Ev (tVar 2) σ G (.int k) := fun h => Dl.var h (.int k)
      have vg : ∀ {σ : L2.St} {G : Hp}, σ[1]? = some (some (.int great)) → Dl.Ev (tVar 1) σ G (.int great) := fun h => Dl.var h (.int great)
      refine Dl.q_asg (F := H3) (Dl.lst (Dl.cons Dl.non (Dl.cons Dl.bl (Dl.cons Dl.bl (Dl.cons Dl.int (Dl.cons (vk rfl) (Dl.cons (vg rfl) (Dl.cons (Dl.op Dl.int (vg rfl) Dl.rI0i) (Dl.cons Dl.str (Dl.cons Dl.str (Dl.cons (Dl.tup Dl.nil (by decide)) (Dl.cons (Dl.lst Dl.nil (by decide))
        (Dl.cons (Dl.tup (Dl.cons Dl.str (Dl.cons Dl.int Dl.nil)) (by decide)) (Dl.cons (Dl.tup (Dl.cons Dl.str (Dl.cons (vk rfl) Dl.nil)) (by show 2 ≤ 100000; decide)) (Dl.cons (Dl.tup (Dl.cons Dl.str (Dl.cons (vk rfl) Dl.nil)) (by show 2 ≤ 100000; decide)) Dl.nil)))))))))))))) (by show 14 ≤ 100000; decide)) bb fun x1 F4 H4 s4 t4 => ?_
      refine Dl.q_asg (F := F4) (Dl.op (Dl.var rfl t4) (Dl.lst (Dl.cons (Dl.tup (Dl.cons Dl.str Dl.nil) (by decide)) (Dl.cons (Dl.tup (Dl.cons Dl.str (Dl.cons Dl.int (Dl.cons (Dl.tup (Dl.cons Dl.str Dl.nil) (by decide)) Dl.nil))) (by show 3 ≤ 100000; decide))
        (Dl.cons (Dl.lst (Dl.cons Dl.int (Dl.cons (Dl.lst (Dl.cons (vk rfl) Dl.nil) (by show 1 ≤ 100000; decide)) Dl.nil)) (by show 2 ≤ 100000; decide)) (Dl.cons (Dl.tup (Dl.cons Dl.str (Dl.cons (vg rfl) Dl.nil)) (by show 2 ≤ 100000; decide)) (Dl.cons (Dl.tup (Dl.cons Dl.non Dl.nil) (by decide)) (Dl.cons (Dl.tup (Dl.cons (Dl.tup Dl.nil (by decide)) (Dl.cons (Dl.lst Dl.nil (by decide)) Dl.nil)) (by show 2 ≤ 100000; decide)) Dl.nil)))))) (by show 6 ≤ 100000; decide))
        (Dl.cat (by show 14 + 6 ≤ 100000; decide))) s4.i fun x2 F5 H5 s5 t5 => ?_
      refine Dl.s_ret (F := F5) (Dl.op (Dl.var rfl t5) (Dl.lst (Dl.cons Dl.str (Dl.cons (Dl.tup (Dl.cons Dl.str (Dl.cons Dl.int (Dl.cons Dl.int Dl.nil))) (by show 3 ≤ 100000; decide)) Dl.nil)) (by show 2 ≤ 100000; decide)) (Dl.cat (by show 14 + 6 + 2 ≤ 100000; decide))) s5.i fun x3 F6 H6 s6 t6 => ?_
      have t7 := t6.mono s6.i
      cases t7 with
      | lst h1 tl => exact q _ k H6 (hb0.trans (.of ((s4.h.trans s5.h).trans s6.h))) (.lst h1 tl)
end
end Lw
set_option Elab.async false
set_option linter.all false
set_option maxRecDepth 100000
set_option maxHeartbeats 4000000
namespace Dl
open PySem PySem.Spec PyProof.Rows L2
/-- a built-in type's name, of data -/
def tyD : D → String
  | .none => "NoneType"
  | .bool _ => "bool"
  | .int _ => "int"
  | .str _ => "str"
  | .list _ => "list"
  | .tuple _ => "tuple"
  | .dict _ => "dict"
theorem Tl.ty {K : PySem.W.Frag} {F H : Hp} {x : V} {d : D} (e : Ex F H) (h : Tl F x d) : TyX K H x (.type (tyD d)) := by
  cases h with
  | non => exact .base .non
  | bl b => exact .base (.bl b)
  | int i => exact .base (.int i)
  | str s => exact .base (.str s)
  | lst h t => exact .base (.lst (e _ _ h))
  | tup h t => exact .base (.tup (e _ _ h))
theorem isi {K : PySem.W.Frag} {σ : L2.St} {F : Hp} {te : TE} {d : D} {n : String} {b : Bool} (h : Ev te σ F d) (hb : kitB (tyD d) n = some b) : Ev (tCB (rIsi K) (tCons te (tCons (tC (.ty n)) tNil))) σ F (.bool b) := fun F1 H1 a i Q q =>
  h F1 H1 a i _ fun x F2 H2 s hx => ⟨x, .ty n, _, _, b, rfl, .ty n, hx.ty s.i, kit_ty hb, q _ F2 H2 s (.bl b)⟩
def isBool : D → Bool
  | .bool _ => true
  | _ => false
theorem kitBool (d : D) : kitB (tyD d) "bool" = some (isBool d) := by
  cases d
  · exact (by decide +kernel : kitB "NoneType" "bool" = some false)
  · exact (by decide +kernel : kitB "bool" "bool" = some true)
  · exact (by decide +kernel : kitB "int" "bool" = some false)
  · exact (by decide +kernel : kitB "str" "bool" = some false)
  · exact (by decide +kernel : kitB "list" "bool" = some false)
  · exact (by decide +kernel : kitB "tuple" "bool" = some false)
  · exact (by decide +kernel : kitB "dict" "bool" = some false)
/-- te is evaluated to x itself -/
def EvV (te : TE) (σ : L2.St) (F : Hp) (P : Hp → V → Prop) : Prop := ∀ F1 H1, Ex F F1 → Ex F1 H1 → ∀ Q : VK, (∀ x F2 H2, Stp F1 H1 F2 H2 → P F2 x → Q x H2) → te σ H1 Q
/-- a comprehension over a list of any values -/
theorem lcV {K : PySem.W.Frag} {σ : L2.St} {F : Hp} {tl te : TE} {t : TT} {j : Nat} {vs : List Nat} {xs : List V} (f : Nat → Bool) (g : Nat → D) (h : EvV tl σ F fun G v => ∃ l, v = .ref l ∧ G l = some (.lst xs)) (hz : xs.length ≤ 40000) (hw : ∀ x, wipe ((wipe σ vs).set j (some x)) vs = wipe σ vs)
    (ht : ∀ (i : Nat) (x : V) G, Ex F G → xs[i]? = some x → EvT t ((wipe σ vs).set j (some x)) G (f i)) (he : ∀ (i : Nat) (x : V) G, Ex F G → xs[i]? = some x → f i = true → Ev te ((wipe σ vs).set j (some x)) G (g i)) :
    Ev (tLc (iList K tl) (gName j) t te vs) σ F (.list (kept xs.length f g)) := fun F0 H0 a b Q q => h F0 H0 a b _ fun v F1 H1 s1 hx => by
  obtain ⟨l, rfl, h1⟩ := hx
  refine ⟨l, rfl, ⟨xs, .inl (.inl (s1.i _ _ h1))⟩, fun p hp => lc_list (xs := xs) (CW F1 H1 f g p) (cw_start s1.i hp) (fun i H' _ w => ?_) (fun i x H' hi w => ?_) (fun H' w => ?_)⟩
  · obtain ⟨_, F, ys, e0, e1, _⟩ := w
    exact .inl (.inl (e1 _ _ (e0 _ _ h1)))
  · have hil : i < xs.length := (List.getElem?_eq_some_iff.mp hi).1
    exact ⟨hw x, cw_turn w (by omega) (fun G eg => ht i x G ((a.trans s1.f).trans eg) hi) (fun G eg hf => he i x G ((a.trans s1.f).trans eg) hi hf)⟩
  · obtain ⟨F2, s2, t2⟩ := cw_end w
    exact q _ F2 H' (s1.trans s2) t2
theorem evar {σ : L2.St} {F : Hp} {i : Nat} {x : V} {P : Hp → V → Prop} (h : σ[i]? = some (some x)) (m : ∀ G, Ex F G → P G x) : EvV (tVar i) σ F P := fun F1 H1 a b Q q => ⟨x, h, q x F1 H1 (.refl b) (m _ a)⟩
/-- a call that hands back a new list of plain values -/
theorem callL {σ : L2.St} {F : Hp} {sp : Sp} {dvs : List V} {E : XK} {ta : TA} {xs : List V} {ds : List D} {P : Hp → List V → Prop} (h : ∀ F1 H1, Ex F F1 → Ex F1 H1 → ∀ Q : List V → Hp → Prop, (∀ vs F2 H2, Stp F1 H1 F2 H2 → P F2 vs → Q vs H2) → ta σ H1 Q)
    (hs : ∀ F1 H1 vs, Ex F F1 → Ex F1 H1 → P F1 vs → ∀ Q : VK, (∀ p H2, H1 p = none → Ex H1 H2 → H2 p = some (.lst xs) → Q (.ref p) H2) → sp (vs ++ dvs) H1 Q E) (hd : ∀ G, TlAll G xs ds) : Ev (tCall sp dvs E ta) σ F (.list ds) := fun F1 H1 a b Q q =>
  h F1 H1 a b _ fun vs F2 H2 s hv => hs F2 H2 vs (a.trans s.f) s.i hv Q fun p H3 hp e3 h3 => by
    have fp := Evl.fresh_back s.i hp
    refine q _ (upd F2 p (.lst xs)) H3 (s.trans ⟨Evl.Ex.new fp, e3, fun c o hc => ?_, Nw.upd hp⟩) (.lst upd_same (hd _))
    by_cases z : c = p
    · subst z
      rw [upd_same] at hc
      cases hc
      exact h3
    · rw [upd_ne z] at hc
      exact e3 _ _ (s.i _ _ hc)
end Dl
namespace Lw
open PySem PySem.Spec PyProof.Rows L2 ExV
section
variable {P : Program} {w : World} {K : PySem.W.Frag} {mg : Str → Option Value} {base : Heap} {cs : Nat → Addr}
theorem bool_shaped (b : Bool) : SeqAt.shaped (.bool b) = true := by cases b <;> decide +kernel
theorem ok_same {f : Addr} {fd : FuncData} (F : Fun K "_law_is_same" "_law_is_same" sSame f fd) (mi : mg "isinstance" = none) (mb : mg "bool" = none) : FnOk P w K mg base CX0 1 f fd ["_law_one", "_law_other"] spSame := by
  refine F.ok scSame (fun vs H Q E h => ?_) (fun cdv A outer s H vs Q E hr h => ?_)
  · obtain ⟨x, d, rfl, _⟩ := h
    rfl
  · obtain ⟨x, d, rfl, hx, hg, q⟩ := h
    refine ⟨_, pss_one (ps_ret (pe_and (pe_cmpR (op_eqD hr.units) (pe_callB call_isi (by rfl) mi (by decide +kernel) (pa_cons (pv 0) (pa_cons (pe_bltn (v := .ty "bool") (by rfl) mb (by decide +kernel) rfl) pa_nil)))
      (pe_callB call_isi (by rfl) mi (by decide +kernel) (pa_cons (pv 1) (pa_cons (pe_bltn (v := .ty "bool") (by rfl) mb (by decide +kernel) rfl) pa_nil))) (nomark _)) (pe_one (pe_cmpR (op_eqD hr.units) (pv 0) (pv 1) (nomark _))))), ?_⟩
    have hb := Dl.kitBool d
    generalize Dl.isBool d = b at hb
    refine Dl.s_ret (F := H) (Dl.is_ (Dl.andV (Dl.op (Dl.isi (Dl.var rfl hx) hb) (Dl.isi (Dl.var rfl hx) hb) (Dl.eqD (bool_shaped b) (bool_shaped b))) (fun _ => Dl.op (Dl.var rfl hx) (Dl.var rfl hx) (Dl.eqD hg.1 hg.1))) (e := ?_) (d := .bool true)) (Evl.Ex.refl _) fun y F1 H1 s1 t1 => ?_
    · rw [hg.2]
      cases b <;> simp [PyData.eqv]
    · cases t1
      exact q H1 s1.h
end
end Lw
set_option Elab.async false
set_option linter.all false
set_option maxRecDepth 100000
set_option maxHeartbeats 4000000
namespace Dl
open PySem PySem.Spec PyProof.Rows L2
theorem lcR2 {σ : L2.St} {F : Hp} {ta : TA} {te : TE} {t : TT} {j : Nat} {vs : List Nat} {lo n : Int} (f : Nat → Bool) (g : Nat → D) (h : EvA ta σ F [.int lo, .int n]) (hn : -40000 ≤ lo ∧ lo ≤ n ∧ n ≤ 40000 ∧ n - lo ≤ 40000) (hw : ∀ x, wipe ((wipe σ vs).set j (some x)) vs = wipe σ vs)
    (ht : ∀ (i : Nat) G, Ex F G → lo + (i : Int) < n → EvT t ((wipe σ vs).set j (some (.int (lo + (i : Int))))) G (f i)) (he : ∀ (i : Nat) G, Ex F G → lo + (i : Int) < n → f i = true → Ev te ((wipe σ vs).set j (some (.int (lo + (i : Int))))) G (g i)) :
    Ev (tLc (iRng2 ta) (gName j) t te vs) σ F (.list (kept (n - lo).toNat f g)) := fun F0 H0 a b Q q => h F0 H0 a b _ fun xs F1 H1 s1 hx => by
  cases hx with
  | cons hv tl =>
    cases tl with
    | cons hv2 tl2 =>
      cases tl2
      cases hv
      cases hv2
      refine ⟨lo, n, rfl, ⟨by omega, by omega, by omega, by omega⟩, fun p hp => lc_range (lo := lo) (n := (n - lo).toNat) (CW F1 H1 f g p) (cw_start s1.i hp) (fun i H' hi w => ?_) (fun H' w => ?_)⟩
      · exact ⟨hw _, cw_turn w (by omega) (fun G eg => ht i G ((a.trans s1.f).trans eg) (by omega)) (fun G eg hf => he i G ((a.trans s1.f).trans eg) (by omega) hf)⟩
      · obtain ⟨F2, s2, t2⟩ := cw_end w
        exact q _ F2 H' (s1.trans s2) t2
end Dl
namespace Lw
open PySem PySem.Spec PyProof.Rows L2 ExV
abbrev sHolds : Stmt := topS 26
theorem scHolds : FnScope ["_law_content", "_law_group", "_law_error", "_law_k"] ["_law_content"] (defScope sHolds) := ⟨rfl, rfl, rfl, by decide +kernel, rfl, by decide +kernel, by decide +kernel⟩
structure Xfs (K : PySem.W.Frag) (cs : Nat → Addr) : Prop where
  xf : ∀ i, 8 ≤ i → i < 13 → XfC K (cs i) ∧ PySem.W.findIn K (.ref (cs i)) (fld i) = some none
def spHolds : Sp := fun vs H Q _ => ∃ (x : V) (d : PyData), vs = [x] ∧ Dl.Tl H x d ∧ Good d ∧ ∀ H', Ex H H' → Q (.bl true) H'
def wantD (lo n : Nat) : List PyData := Dl.kept n (fun _ => true) fun i => .list [.int ((lo + i : Nat) : Int)]
section
variable {P : Program} {w : World} {K : PySem.W.Frag} {mg : Str → Option Value} {base : Heap} {cs : Nat → Addr}
theorem grp5_at {cs : Nat → Addr} {y : V} {i : Nat} {d : Addr × Fs} (h : (grp5 cs y)[i]? = some d) : i < 5 ∧ d = (cs (8 + i), some [(fld (8 + i), y)]) := by
  match i, h with
  | 0, h => exact ⟨by decide, (Option.some.inj h).symm⟩
  | 1, h => exact ⟨by decide, (Option.some.inj h).symm⟩
  | 2, h => exact ⟨by decide, (Option.some.inj h).symm⟩
  | 3, h => exact ⟨by decide, (Option.some.inj h).symm⟩
  | 4, h => exact ⟨by decide, (Option.some.inj h).symm⟩
  | i + 5, h =>
    have z : (grp5 cs y)[i + 5]? = none := List.getElem?_eq_none (by show 5 ≤ i + 5; omega)
    rw [z] at h
    cases h
theorem ev_yes {σ : L2.St} {G : Hp} : Dl.EvT tYes σ G true := fun F1 H1 _ b Q q => q F1 H1 (.refl b)
/-- matches of an object of the class i -/
theorem ev_matches {σ : L2.St} {G : Hp} {j i : Nat} {a : Addr} {fs : Fs} (hj : σ[j]? = some (some (.ref a))) (hi : i < 13) (hx : Exc G a (cs i) fs) : Dl.Ev (tCall (spMatches cs) [] E0 (tCons (tVar j) tNil)) σ G (.list [.int (i : Int)]) :=
  Dl.callL (xs := [.int (i : Int)]) (P := fun _ vs => vs = [.ref a]) (fun F1 H1 _ b Q q => ⟨_, hj, q _ F1 H1 (.refl b) rfl⟩) (fun F1 H1 vs e1 b hv Q q => by
    subst hv
    refine ⟨a, i, fs, rfl, by omega, (hx.mono e1).mono b, fun p H2 hp e2 h2 => q p H2 hp e2 ?_⟩
    rw [h2]
    unfold resM
    rw [if_pos hi]) fun _ => .cons (.int _) .nil
theorem ok_holds {f fM fS fP fK : Addr} {fd fdM fdS fdP fdK : FuncData} (F : Fun K "_law_holds" "_law_holds" sHolds f fd)
    (FM : Fun K "_law_matches" "_law_matches" sMatches fM fdM) (bM : Binds K fdM ["_law_error"] []) (gM : mg "_law_matches" = some (.ref fM)) (GM : FnOk P w K mg base CX0 1 fM fdM ["_law_error"] (spMatches cs))
    (FS : Fun K "_law_is_same" "_law_is_same" sSame fS fdS) (bS : Binds K fdS ["_law_one", "_law_other"] []) (gS : mg "_law_is_same" = some (.ref fS)) (GS : FnOk P w K mg base CX0 1 fS fdS ["_law_one", "_law_other"] spSame)
    (FP : Fun K "_law_by_position" "_law_by_position" sPos fP fdP) (bP : Binds K fdP ["_law_content"] []) (gP : mg "_law_by_position" = some (.ref fP)) (GP : FnOk P w K mg base CX0 3 fP fdP ["_law_content"] (spFive cs))
    (FK : Fun K "_law_by_keyword" "_law_by_keyword" sKey fK fdK) (bK : Binds K fdK ["_law_content"] []) (gK : mg "_law_by_keyword" = some (.ref fK)) (GK : FnOk P w K mg base CX0 3 fK fdK ["_law_content"] (spFive cs))
    (C : Xfs K cs) (mr : mg "range" = none) : FnOk P w K mg base CX0 4 f fd ["_law_content"] spHolds := by
  refine F.ok scHolds (fun vs H Q E h => ?_) (fun cdv A outer s H vs Q E hr h => ?_)
  · obtain ⟨x, d, rfl, _⟩ := h
    rfl
  · obtain ⟨x, d, rfl, hx, hg, q⟩ := h
    have nd := scHolds.nd
    have hr1 : Room 1 (A.deeper (envOfC "_law_holds" (defScope sHolds) s.heap.objs.size f cdv)) := hr.mono (by decide)
    refine ⟨_, pss_cons (ps_for PassesOwn.never rfl (pi_list (pe_lst (pa_cons (pe_call GP hr (by rfl) gP FP.kp bP .nil pass0 (pa_cons (pv 0) pa_nil)) (pa_cons (pe_call GK hr (by rfl) gK FK.kp bK .nil pass0 (pa_cons (pv 0) pa_nil)) pa_nil)))) (pg_name (i := 1) nd rfl (.inl rfl))
        (pss_cons (ps_if (pt_cmpR (op_neD hr.units) (pe_lc (own := [("_law_error", 2)]) (g := gName 2) (tt := tYes) (te := tCall (spMatches cs) [] E0 (tCons (tVar 2) tNil)) (by rfl) nd (pi_list (pv 1)) (blkOk_by (own := [("_law_error", 2)]) (N := ["_law_content", "_law_group", "_law_error", "_law_k"]) (sc := defScope sHolds) (by decide +kernel))
              (fun _ _ _ _ _ => pg_name (i := 2) nd rfl (.inl rfl)) (fun _ _ _ _ _ => pts_nil) (fun _ _ _ _ _ => pe_call GM hr1 (by rfl) gM FM.kp bM .nil pass0 (pa_cons (pv 2) pa_nil)))
            (pe_lc (own := [("_law_k", 3)]) (g := gName 3) (tt := tYes) (te := tLst (tCons (tVar 3) tNil)) (by rfl) nd (pi_range2 (by rfl) mr (pa_cons pe_int (pa_cons pe_int pa_nil))) (blkOk_by (own := [("_law_k", 3)]) (N := ["_law_content", "_law_group", "_law_error", "_law_k"]) (sc := defScope sHolds) (by decide +kernel))
              (fun _ _ _ _ _ => pg_name (i := 3) nd rfl (.inl rfl)) (fun _ _ _ _ _ => pts_nil) (fun _ _ _ _ _ => pe_lst (pa_cons (pv 3) pa_nil))) (nomark _)) (pss_one (ps_ret pe_bl)) pss_nil)
        (pss_cons (ps_if (pt_cmpR (op_neD hr.units) (pe_lc (own := [("_law_error", 2)]) (g := gName 2) (tt := tNot (tB (tCall spSame [] E0 (tCons (tXF K "reason" (tVar 2)) (tCons (tVar 0) tNil))))) (te := tVar 2) (by rfl) nd (pi_list (pe_slice sl_list (pv 1) po_none (po_some pe_int))) (blkOk_by (own := [("_law_error", 2)]) (N := ["_law_content", "_law_group", "_law_error", "_law_k"]) (sc := defScope sHolds) (by decide +kernel))
              (fun _ _ _ _ _ => pg_name (i := 2) nd rfl (.inl rfl)) (fun _ _ _ _ _ => pts_one (pt_not (pt_val (pe_call GS hr1 (by rfl) gS FS.kp bS .nil pass0 (pa_cons (pe_xfv (pv 2)) (pa_cons (pv 0) pa_nil)))))) (fun _ _ _ _ _ => pv 2))
            (pe_lst pa_nil) (nomark _)) (pss_one (ps_ret pe_bl)) pss_nil)
        (pss_one (ps_if (pt_not (pt_val (pe_call GS hr1 (by rfl) gS FS.kp bS .nil pass0 (pa_cons (pe_xfv (pe_ix ix_list (pv 1) pe_int (fun _ _ => rfl))) (pa_cons (pv 0) pa_nil))))) (pss_one (ps_ret pe_bl)) pss_nil)))))
      (pss_one (ps_ret pe_bl)), ?_⟩
    refine ⟨x, rfl, x, rfl, fun p1 H1 n1 e1 g1 => ?_⟩
    refine ⟨x, rfl, x, rfl, fun p2 H2 n2 e2 g2 => ?_⟩
    refine ⟨by show 2 ≤ sizeLine; decide, fun l nl => ?_⟩
    refine ⟨l, rfl, ⟨_, .inl (.inl upd_same)⟩, ?_⟩
    have e12 : Ex H1 (upd H2 l (.lst [.ref p1, .ref p2])) := e2.trans (Evl.Ex.new nl)
    have eH : Ex H (upd H2 l (.lst [.ref p1, .ref p2])) := e1.trans e12
    have hl : (upd H2 l (.lst [.ref p1, .ref p2])) l = some (.lst [.ref p1, .ref p2]) := upd_same
    have gg1 := g1.mono e12
    have gg2 := g2.mono (Evl.Ex.new (o := .lst [.ref p1, .ref p2]) nl)
    generalize upd H2 l (.lst [.ref p1, .ref p2]) = Hl at e12 eH hl gg1 gg2 ⊢
    refine for_list (K := K) (a := l) (xs := [.ref p1, .ref p2]) (fun i σ H' => ∃ y, σ = [some x, y, none, none] ∧ Ex Hl H') ⟨none, rfl, Evl.Ex.refl _⟩ (fun i σ H' _ hP => .inl (.inl (hP.choose_spec.2 _ _ hl))) (fun i v σ H' hi hP => ?_) (fun σ H' hP => ?_)
    · obtain ⟨y, rfl, eL⟩ := hP
      obtain ⟨p, rfl, gp⟩ : ∃ p, v = .ref p ∧ Grp Hl p (grp5 cs x) := by
        match i, hi with
        | 0, hi => exact ⟨p1, (Option.some.inj hi).symm, gg1⟩
        | 1, hi => exact ⟨p2, (Option.some.inj hi).symm, gg2⟩
        | i + 2, hi => simp at hi
      obtain ⟨xs, hp, hxs⟩ := gp.mono eL
      have hxl : xs.length = 5 := hxs.length
      have hx' : Dl.Tl H' x d := (hx.mono eH).mono eL
      have at5 : ∀ i v, xs[i]? = some v → i < 5 ∧ ∃ a, v = .ref a ∧ Exc H' a (cs (8 + i)) (some [(fld (8 + i), x)]) := fun i v hv => by
        obtain ⟨a, dd, h1, h2, h3⟩ := hxs.get hv
        obtain ⟨h4, rfl⟩ := grp5_at h1
        exact ⟨h4, a, h2, h3⟩
      -- what matches says of each
      refine Dl.q_when (F := H') (c := false) (Dl.test (Dl.is_ (Dl.op (d1 := .list (wantD 8 5)) (d2 := .list (wantD 8 5)) (by
          have z := Dl.lcV (K := K) (σ := [some x, some (V.ref p), none, none]) (F := H') (tl := tVar 1) (te := tCall (spMatches cs) [] E0 (tCons (tVar 2) tNil)) (t := tYes) (j := 2) (vs := [2]) (xs := xs) (fun _ => true) (fun i => .list [.int ((8 + i : Nat) : Int)])
            (Dl.evar rfl fun G eg => ⟨p, rfl, eg _ _ hp⟩) (by omega) (fun _ => rfl) (fun i v G eg hv => ev_yes) (fun i v G eg hv _ => by
              obtain ⟨h5, a, rfl, hxa⟩ := at5 i v hv
              exact ev_matches rfl (by omega) (hxa.mono eg))
          rw [hxl] at z
          exact z) (Dl.lcR2 (lo := 8) (n := 13) (fun _ => true) (fun i => .list [.int ((8 + i : Nat) : Int)]) (Dl.cons Dl.int (Dl.cons Dl.int Dl.nil)) ⟨by decide, by decide, by decide, by decide⟩ (fun _ => rfl) (fun i G eg hi => ev_yes) (fun i G eg hi _ => Dl.lst (Dl.cons (Dl.var rfl (by
              rw [show (8 : Int) + (i : Int) = ((8 + i : Nat) : Int) by omega]
              exact .int _)) Dl.nil) (by show 1 ≤ 100000; decide))) (Dl.neD (by decide +kernel) (by decide +kernel))) (congrArg PyData.bool (by decide +kernel : (!PyData.eqv (.list (wantD 8 5)) (.list (wantD 8 5))) = false)))) (Evl.Ex.refl _) (fun z => Bool.noConfusion z) (fun _ F1 H1' s1 => ?_)
      -- the fields
      have same : ∀ (te : TE) (f : Str) (i : Nat) (σ : L2.St) (G : Hp) (a : Addr), Ex H' G → 8 ≤ i → i < 13 → fld i = f → Dl.EvV te σ G (fun _ v => v = .ref a) → Exc G a (cs i) (some [(fld i, x)]) → σ[0]? = some (some x) →
          Dl.EvT (tB (tCall spSame [] E0 (tCons (tXF K f te) (tCons (tVar 0) tNil)))) σ G true := fun te f i σ G a eG h8 h13 hf hv hxa h0 F2 H2 a2 b2 Q k => by
        subst hf
        refine hv F2 H2 a2 b2 _ fun v F3 H3 s3 ev => ?_
        subst ev
        refine ⟨a, cs i, _, x, rfl, (C.xf i h8 h13).1, (C.xf i h8 h13).2, ((hxa.mono a2).mono b2).mono s3.h, by simp [List.lookup], ?_⟩
        refine ⟨x, h0, x, d, rfl, (((hx'.mono eG).mono a2).mono b2).mono s3.h, hg, fun H4 e4 => ⟨true, rfl, k F3 H4 (s3.trans ⟨Evl.Ex.refl _, e4, s3.i.trans e4, Dl.Nw.refl⟩)⟩⟩
      refine Dl.q_when (F := F1) (c := false) (Dl.test (Dl.is_ (Dl.op (d1 := .list (Dl.kept 4 (fun _ => false) fun _ => .none)) (d2 := .list []) (by
          have hl4 : (xs.take 4).length = 4 := by rw [List.length_take]; omega
          have z := Dl.lcV (K := K) (σ := [some x, some (V.ref p), none, none]) (F := F1) (tl := tSl (rSlL K) (tVar 1) tNoPart (tPart (tC (.int 4)))) (te := tVar 2) (t := tNot (tB (tCall spSame [] E0 (tCons (tXF K "reason" (tVar 2)) (tCons (tVar 0) tNil))))) (j := 2) (vs := [2]) (xs := xs.take 4) (fun _ => false) (fun _ => .none)
            (fun F2 H2 a2 b2 Q k => ⟨_, rfl, 4, rfl, p, xs, rfl, .inl (.inl (b2 _ _ (a2 _ _ (s1.f _ _ hp)))), fun r hr => k _ _ _ (.new b2 hr) ⟨r, rfl, by
              rw [upd_same]
              exact congrArg (fun z => some (HO.lst z)) (by
                have e : HT.sIx xs.length xs.length (some 4) = min 4 xs.length := HT.sIx_nat xs.length xs.length 4
                unfold cutV
                rw [e, HT.sIx_none, List.drop_zero, Nat.sub_zero, hxl]
                rfl)⟩⟩) (by omega) (fun _ => rfl) (fun i v G eg hv => by
              have hi4 : i < 4 := by have := (List.getElem?_eq_some_iff.mp hv).1; omega
              rw [List.getElem?_take_of_lt hi4] at hv
              obtain ⟨h5, a, rfl, hxa⟩ := at5 i v hv
              refine Dl.tnot (a := true) (same (tVar 2) "reason" (8 + i) _ G a (s1.f.trans eg) (by omega) (by omega) (by unfold fld; rw [if_neg (by omega)]) (Dl.evar rfl fun _ _ => rfl) ((hxa.mono s1.f).mono eg) rfl)) (fun i v G eg hv z => Bool.noConfusion z)
          rw [hl4] at z
          exact z) (Dl.lst Dl.nil (by decide)) (Dl.neD (by decide +kernel) (by decide +kernel))) (congrArg PyData.bool (by decide +kernel : (!PyData.eqv (.list (Dl.kept 4 (fun _ => false) fun _ => .none)) (.list [])) = false)))) s1.i (fun z => Bool.noConfusion z) (fun _ F2 H2 s2 => ?_)
      obtain ⟨v4, hv4⟩ : ∃ v, xs[4]? = some v := ⟨_, List.getElem?_eq_getElem (by omega)⟩
      obtain ⟨_, a4, rfl, hx4⟩ := at5 4 _ hv4
      have e2' := s1.f.trans s2.f
      refine Dl.s_if (F := F2) (c := false) (Dl.tnot (a := true) (same _ "slot" 12 _ F2 a4 e2' (by decide) (by decide) rfl (fun F3 H3 a3 b3 Q k => ⟨_, rfl, p, xs, 4, _, rfl, rfl, .inl (.inl (b3 _ _ (a3 _ _ (e2' _ _ hp)))), atI_nat (j := 4) hv4, k _ F3 H3 (.refl b3) rfl⟩) (hx4.mono e2') rfl)) s2.i (fun z => Bool.noConfusion z) (fun _ F3 H3 s3 => ?_)
      exact ⟨_, rfl, ((eL.trans s1.h).trans s2.h).trans s3.h⟩
    · obtain ⟨y, rfl, eL⟩ := hP
      exact q H' (eH.trans eL)
end
end Lw
set_option Elab.async false
set_option linter.all false
set_option maxRecDepth 100000
set_option maxHeartbeats 4000000
namespace Lw
open PySem PySem.Spec PyProof.Rows L2 ExV
abbrev sLaw : Stmt := topS 27
abbrev nLaw : List Str := ["_law_script", "_law_source_here", "_law_text", "_law_group", "_law_error", "_law_k", "_law_content"]
theorem scLaw : FnScope nLaw ["_law_script"] (defScope sLaw) := ⟨rfl, rfl, rfl, by decide +kernel, rfl, by decide +kernel, by decide +kernel⟩
def spLaw (K : PySem.W.Frag) : Sp := fun vs H Q _ => ∃ (a : Addr) (ns : List Int), vs = [.ref a] ∧ SqL K H a (ns.map V.int) ∧ ns.length ≤ 63 ∧ ∀ H', Q (.bl true) H'
/-- the defs as they stand -/
structure Defs (P : Program) (w : World) (K : PySem.W.Frag) (mg : Str → Option Value) (base : Heap) (cs : Nat → Addr) : Prop where
  source : ∃ f fd, mg "_law_source" = some (.ref f) ∧ PySem.W.keepIn K (.ref f) = true ∧ Binds K fd ["_law_script"] [] ∧ FnOk P w K mg base CX0 1 f fd ["_law_script"] (spSource K)
  pick : ∃ f fd, mg "_law_pick" = some (.ref f) ∧ PySem.W.keepIn K (.ref f) = true ∧ Binds K fd ["_law_source_here", "_law_values"] [] ∧ FnOk P w K mg base CX0 2 f fd ["_law_source_here", "_law_values"] (spPick K)
  empty : ∃ f fd, mg "_law_empty" = some (.ref f) ∧ PySem.W.keepIn K (.ref f) = true ∧ Binds K fd [] [] ∧ FnOk P w K mg base CX0 1 f fd [] (spEmpty cs)
  simple : ∃ f fd, mg "_law_simple" = some (.ref f) ∧ PySem.W.keepIn K (.ref f) = true ∧ Binds K fd ["_law_text"] [] ∧ FnOk P w K mg base CX0 1 f fd ["_law_text"] (spSimple cs)
  matches_ : ∃ f fd, mg "_law_matches" = some (.ref f) ∧ PySem.W.keepIn K (.ref f) = true ∧ Binds K fd ["_law_error"] [] ∧ FnOk P w K mg base CX0 1 f fd ["_law_error"] (spMatches cs)
  conts : ∃ f fd, mg "_law_contents" = some (.ref f) ∧ PySem.W.keepIn K (.ref f) = true ∧ Binds K fd ["_law_source_here"] [] ∧ FnOk P w K mg base CX0 2 f fd ["_law_source_here"] spContents
  holds : ∃ f fd, mg "_law_holds" = some (.ref f) ∧ PySem.W.keepIn K (.ref f) = true ∧ Binds K fd ["_law_content"] [] ∧ FnOk P w K mg base CX0 4 f fd ["_law_content"] spHolds
section
variable {P : Program} {w : World} {K : PySem.W.Frag} {mg : Str → Option Value} {base : Heap} {cs : Nat → Addr}
theorem grp8_at {i : Nat} {d : Addr × Fs} (h : (grp8 cs)[i]? = some d) : i < 8 ∧ d = (cs i, none) := by
  match i, h with
  | 0, h => exact ⟨by decide, (Option.some.inj h).symm⟩
  | 1, h => exact ⟨by decide, (Option.some.inj h).symm⟩
  | 2, h => exact ⟨by decide, (Option.some.inj h).symm⟩
  | 3, h => exact ⟨by decide, (Option.some.inj h).symm⟩
  | 4, h => exact ⟨by decide, (Option.some.inj h).symm⟩
  | 5, h => exact ⟨by decide, (Option.some.inj h).symm⟩
  | 6, h => exact ⟨by decide, (Option.some.inj h).symm⟩
  | 7, h => exact ⟨by decide, (Option.some.inj h).symm⟩
  | i + 8, h =>
    have z : (grp8 cs)[i + 8]? = none := List.getElem?_eq_none (by show 8 ≤ i + 8; omega)
    rw [z] at h
    cases h
theorem q_forG {te : TE} {σ : L2.St} {H : Hp} {Ds : List (Addr × Fs)} {g : TG} {tb tz : TS} {DD : Ends} (h : EvG te σ H Ds) (Pv : Hp → Nat → L2.St → Hp → Prop) (h0 : ∀ H1, Ex H H1 → Pv H1 0 σ H1) (hk : ∀ H1 i σ' H', Pv H1 i σ' H' → Ex H1 H')
    (hs : ∀ xs H1 i x σ' H', Ex H H1 → Xs H1 xs Ds → xs[i]? = some x → Pv H1 i σ' H' → g x σ' H' fun σ2 H2 => tb { DD with nx := Pv H1 (i + 1), ct := Pv H1 (i + 1), bk := tz DD } σ2 H2) (hd : ∀ H1 n σ' H', Ex H H1 → Pv H1 n σ' H' → tz DD σ' H') :
    tSeq (tFor (iList K te) g tb) tz DD σ H := h H (Evl.Ex.refl _) _ fun p H1 hp e ⟨xs, h1, hx⟩ => ⟨p, rfl, ⟨xs, .inl (.inl h1)⟩,
      for_list (xs := xs) (D := { DD with nx := tz DD }) (Pv H1) (h0 H1 e) (fun i σ' H' _ hP => .inl (.inl (hk _ _ _ _ hP _ _ h1))) (fun i x σ' H' hi hP => hs xs H1 i x σ' H' e hx hi hP) (fun σ' H' hP => hd H1 _ σ' H' e hP)⟩
theorem ev_matches13 {σ : L2.St} {G : Hp} {j : Nat} {a : Addr} {fs : Fs} (hj : σ[j]? = some (some (.ref a))) (hx : Exc G a (cs 13) fs) : Dl.Ev (tCall (spMatches cs) [] E0 (tCons (tVar j) tNil)) σ G (.list []) :=
  Dl.callL (xs := []) (P := fun _ vs => vs = [.ref a]) (fun F1 H1 _ b Q q => ⟨_, hj, q _ F1 H1 (.refl b) rfl⟩) (fun F1 H1 vs e1 b hv Q q => by
    subst hv
    refine ⟨a, 13, fs, rfl, by decide, (hx.mono e1).mono b, fun p H2 hp e2 h2 => q p H2 hp e2 ?_⟩
    rw [h2]
    rfl) fun _ => .nil
theorem ev_isVD {σ : L2.St} {G : Hp} {a : Addr} {i j : Nat} {fs : Fs} (C : Kits K cs) (hi : i < 14) (hx : Exc G a (cs i) fs) (h0 : σ[j]? = some (some (.ref a))) :
    Dl.EvT (tB (tCB (rIsX K) (tCons (tVar j) (tCons (tC (.ty "ValueError")) tNil)))) σ G true := fun F1 H1 e b Q q =>
  ⟨_, h0, a, cs i, fs, .ty "ValueError", _, true, rfl, C.ex i hi, (hx.mono e).mono b, .ty _, C.kitV i hi, true, rfl, q F1 H1 (.refl b)⟩
theorem ok_law {f : Addr} {fd : FuncData} (F : Fun K "law" "law" sLaw f fd) (Z : Defs P w K mg base cs) (C : Kits K cs) (G : Gls mg cs) (Pl : Plain K cs) (mi : mg "isinstance" = none) (mr : mg "range" = none) (mV : mg "ValueError" = none) :
    FnOk P w K mg base CX0 5 f fd ["_law_script"] (spLaw K) := by
  obtain ⟨fA, fdA, gA, kA, bA, GA⟩ := Z.source
  obtain ⟨fB, fdB, gB, kB, bB, GB⟩ := Z.pick
  obtain ⟨fC, fdC, gC, kC, bC, GC⟩ := Z.empty
  obtain ⟨fD, fdD, gD, kD, bD, GD⟩ := Z.simple
  obtain ⟨fM, fdM, gM, kM, bM, GM⟩ := Z.matches_
  obtain ⟨fO, fdO, gO, kO, bO, GO⟩ := Z.conts
  obtain ⟨fH, fdH, gH, kH, bH, GH⟩ := Z.holds
  refine F.ok scLaw (fun vs H Q E h => ?_) (fun cdv A outer s H vs Q E hr h => ?_)
  · obtain ⟨a, ns, rfl, _⟩ := h
    rfl
  · obtain ⟨a, ns, rfl, hS, hlen, q⟩ := h
    have nd := scLaw.nd
    have hr1 : Room 1 (A.deeper (envOfC "law" (defScope sLaw) s.heap.objs.size f cdv)) := hr.mono (by decide)
    have hr2 : Room 2 (A.deeper (envOfC "law" (defScope sLaw) s.heap.objs.size f cdv)) := hr.mono (by decide)
    refine ⟨_, pss_cons (ps_set (i := 1) nd rfl (.inl rfl) (pe_call GA hr1 (by rfl) gA kA bA .nil pass0 (pa_cons (pv 0) pa_nil)))
      (pss_cons (ps_set (i := 2) nd rfl (.inl rfl) (pe_call GB hr2 (by rfl) gB kB bB .nil pass0 (pa_cons (pv 1) (pa_cons (pe_lst (pa_cons pe_str (pa_cons pe_str (pa_cons pe_str (pa_cons pe_str (pa_cons pe_str pa_nil)))))) pa_nil))))
      (pss_cons (ps_for PassesOwn.never rfl (pi_list (pe_lst (pa_cons (pe_call0 GC hr1 (by rfl) gC kC bC .nil pass0) (pa_cons (pe_call GD hr1 (by rfl) gD kD bD .nil pass0 (pa_cons pe_str pa_nil)) (pa_cons (pe_call GD hr1 (by rfl) gD kD bD .nil pass0 (pa_cons (pv 2) pa_nil)) pa_nil))))) (pg_name (i := 3) nd rfl (.inl rfl))
        (pss_one (ps_if (pt_cmpR (op_neD hr.units) (pe_lc (own := [("_law_error", 4)]) (g := gName 4) (tt := tYes) (te := tCall (spMatches cs) [] E0 (tCons (tVar 4) tNil)) (by rfl) nd (pi_list (pv 3)) (blkOk_by (own := [("_law_error", 4)]) (N := nLaw) (sc := defScope sLaw) (by decide +kernel))
              (fun _ _ _ _ _ => pg_name (i := 4) nd rfl (.inl rfl)) (fun _ _ _ _ _ => pts_nil) (fun _ _ _ _ _ => pe_call GM hr1 (by rfl) gM kM bM .nil pass0 (pa_cons (pv 4) pa_nil)))
            (pe_lc (own := [("_law_k", 5)]) (g := gName 5) (tt := tYes) (te := tLst (tCons (tVar 5) tNil)) (by rfl) nd (pi_range1 (by rfl) mr (pa_cons pe_int pa_nil)) (blkOk_by (own := [("_law_k", 5)]) (N := nLaw) (sc := defScope sLaw) (by decide +kernel))
              (fun _ _ _ _ _ => pg_name (i := 5) nd rfl (.inl rfl)) (fun _ _ _ _ _ => pts_nil) (fun _ _ _ _ _ => pe_lst (pa_cons (pv 5) pa_nil))) (nomark _)) (pss_one (ps_ret pe_bl)) pss_nil)))
      (pss_cons (ps_for PassesOwn.never rfl (pi_list (pe_lst (pa_cons (pe_mk0 (Pl.nw 13 (by decide) (by decide)) G.g13 (Pl.kp 13 (by decide)) (by rfl)) (pa_cons (pe_mk1 (Pl.nw 13 (by decide) (by decide)) G.g13 (Pl.kp 13 (by decide)) (by rfl) (pa_cons pe_str pa_nil)) (pa_cons (pe_mk1 (Pl.nw 13 (by decide) (by decide)) G.g13 (Pl.kp 13 (by decide)) (by rfl) (pa_cons (pv 2) pa_nil)) pa_nil))))) (pg_name (i := 4) nd rfl (.inl rfl))
        (pss_one (ps_if (PW.pt (pw_or (pt_not (pt_val (pe_callB call_isX (by rfl) mi (by decide +kernel) (pa_cons (pv 4) (pa_cons (pe_bltn (v := .ty "ValueError") (by rfl) mV (by decide +kernel) rfl) pa_nil))))) (pw_or1 (pt_cmpR (op_neD hr.units) (pe_call GM hr1 (by rfl) gM kM bM .nil pass0 (pa_cons (pv 4) pa_nil)) (pe_lst pa_nil) (nomark _)))))
          (pss_one (ps_ret pe_bl)) pss_nil)))
      (pss_one (ps_ret (pe_cmpR (op_eqD hr.units) (pe_lc (own := [("_law_content", 6)]) (g := gName 6) (tt := tNot (tB (tCall spHolds [] E0 (tCons (tVar 6) tNil)))) (te := tVar 6) (by rfl) nd (pi_list (pe_call GO hr2 (by rfl) gO kO bO .nil pass0 (pa_cons (pv 1) pa_nil))) (blkOk_by (own := [("_law_content", 6)]) (N := nLaw) (sc := defScope sLaw) (by decide +kernel))
              (fun _ _ _ _ _ => pg_name (i := 6) nd rfl (.inl rfl)) (fun _ _ _ _ _ => pts_one (pt_not (pt_val (pe_call GH hr (by rfl) gH kH bH .nil pass0 (pa_cons (pv 6) pa_nil))))) (fun _ _ _ _ _ => pv 6)) (pe_lst pa_nil) (nomark _))))))), ?_⟩
    -- the source, the text
    refine ⟨_, rfl, a, ns, rfl, hS, hlen, fun H1 S e1 n1 n2 s1 => ?_⟩
    refine ⟨_, rfl, by show 5 ≤ sizeLine; decide, fun va nva => ?_⟩
    have va1 : va ≠ S.1 := fun z => by
      rw [z, s1.at1] at nva
      cases nva
    have va2 : va ≠ S.2 := fun z => by
      obtain ⟨_, _, _, _, z2⟩ := s1
      rw [z, z2] at nva
      cases nva
    refine ⟨S, 0, va, [.str "a", .str "slot 3", .str "Not found.", .str "{x}", .str "0"], rfl, s1.mono (Evl.Ex.new nva), by decide, .inl (.inl upd_same), va1, va2, by decide, by decide, fun x H3 hb hs hxm => ?_⟩
    obtain ⟨tx, rfl⟩ : ∃ tx, x = .str tx := by
      simp only [List.mem_cons, List.not_mem_nil, or_false] at hxm
      rcases hxm with rfl | rfl | rfl | rfl | rfl <;> exact ⟨_, rfl⟩
    clear hb va1 va2 nva s1 n1 n2 e1 hS
    -- the groups
    refine ⟨rfl, fun p1 H4 m1 e4 g1 => ⟨_, rfl, fun p2 H5 m2 e5 g2 => ?_⟩⟩
    refine ⟨_, rfl, _, rfl, fun p3 H6 m3 e6 g3 => ?_⟩
    refine ⟨by show 3 ≤ sizeLine; decide, fun l nl => ?_⟩
    refine ⟨l, rfl, ⟨_, .inl (.inl upd_same)⟩, ?_⟩
    have e7 := Evl.Ex.new (o := .lst [.ref p1, .ref p2, .ref p3]) nl
    have e3 := ((e4.trans e5).trans e6).trans e7
    have hl : (upd H6 l (.lst [.ref p1, .ref p2, .ref p3])) l = some (.lst [.ref p1, .ref p2, .ref p3]) := upd_same
    have gg1 := g1.mono ((e5.trans e6).trans e7)
    have gg2 := g2.mono (e6.trans e7)
    have gg3 := g3.mono e7
    generalize upd H6 l (.lst [.ref p1, .ref p2, .ref p3]) = Hl at e7 e3 hl gg1 gg2 gg3 ⊢
    refine for_list (K := K) (a := l) (xs := [.ref p1, .ref p2, .ref p3]) (fun i σ H' => ∃ y, σ = [some (.ref a), some (.ref S.1), some (.str tx), y, none, none, none] ∧ Ex Hl H') ⟨none, rfl, Evl.Ex.refl _⟩ (fun i σ H' _ hP => .inl (.inl (hP.choose_spec.2 _ _ hl))) (fun i v σ H' hi hP => ?_) (fun σ H' hP => ?_)
    · obtain ⟨y, rfl, eL⟩ := hP
      obtain ⟨p, rfl, gp⟩ : ∃ p, v = .ref p ∧ Grp Hl p (grp8 cs) := by
        match i, hi with
        | 0, hi => exact ⟨p1, (Option.some.inj hi).symm, gg1⟩
        | 1, hi => exact ⟨p2, (Option.some.inj hi).symm, gg2⟩
        | 2, hi => exact ⟨p3, (Option.some.inj hi).symm, gg3⟩
        | i + 3, hi => simp at hi
      obtain ⟨xs, hp, hxs⟩ := gp.mono eL
      have hxl : xs.length = 8 := hxs.length
      have at8 : ∀ i v, xs[i]? = some v → i < 8 ∧ ∃ a, v = .ref a ∧ Exc H' a (cs i) none := fun i v hv => by
        obtain ⟨a, dd, h1, h2, h3⟩ := hxs.get hv
        obtain ⟨h4, rfl⟩ := grp8_at h1
        exact ⟨h4, a, h2, h3⟩
      refine Dl.s_if (F := H') (c := false) (Dl.test (Dl.is_ (Dl.op (d1 := .list (wantD 0 8)) (d2 := .list (wantD 0 8)) (by
          have z := Dl.lcV (K := K) (σ := [some (V.ref a), some (.ref S.1), some (.str tx), some (.ref p), none, none, none]) (F := H') (tl := tVar 3) (te := tCall (spMatches cs) [] E0 (tCons (tVar 4) tNil)) (t := tYes) (j := 4) (vs := [4]) (xs := xs) (fun _ => true) (fun i => .list [.int ((0 + i : Nat) : Int)])
            (Dl.evar rfl fun G eg => ⟨p, rfl, eg _ _ hp⟩) (by omega) (fun _ => rfl) (fun i v G eg hv => ev_yes) (fun i v G eg hv _ => by
              obtain ⟨h8, a, rfl, hxa⟩ := at8 i v hv
              rw [Nat.zero_add]
              exact ev_matches rfl (by omega) (hxa.mono eg))
          rw [hxl] at z
          exact z) (Dl.lcR1 (n := 8) (fun _ => true) (fun i => .list [.int ((0 + i : Nat) : Int)]) (Dl.cons Dl.int Dl.nil) ⟨by decide, by decide⟩ (fun _ => rfl) (fun i G eg hi => ev_yes) (fun i G eg hi _ => Dl.lst (Dl.cons (Dl.var rfl (by
              rw [Nat.zero_add]
              exact .int _)) Dl.nil) (by show 1 ≤ 100000; decide))) (Dl.neD (by decide +kernel) (by decide +kernel))) (congrArg PyData.bool (by decide +kernel : (!PyData.eqv (.list (wantD 0 8)) (.list (wantD 0 8))) = false)))) (Evl.Ex.refl _) (fun z => Bool.noConfusion z) (fun _ F1 H1' s1 => ?_)
      exact ⟨_, rfl, eL.trans s1.h⟩
    · obtain ⟨y, rfl, eL⟩ := hP
      have hs' : Src H' S (0 + 1) := (hs.mono e3).mono eL
      -- the base's own
      have eG : EvG (tLst (tCons (tMk0 (cs 13) tNil) (tCons (tMk0 (cs 13) (tCons (tC (.str "")) tNil)) (tCons (tMk0 (cs 13) (tCons (tVar 2) tNil)) tNil)))) [some (V.ref a), some (.ref S.1), some (.str tx), y, none, none, none] H' [(cs 13, none), (cs 13, none), (cs 13, none)] :=
        g_lst (xs_cons (x_mk0 (vs := []) Evl.ea_nil (by decide)) (xs_cons (x_mk0 (vs := [.str ""]) (Evl.ea_cons Evl.ev_c Evl.ea_nil) (by show 1 ≤ 1000; decide)) (xs_cons (x_mk0 (vs := [.str tx]) (Evl.ea_cons (Evl.ev_var rfl) Evl.ea_nil) (by show 1 ≤ 1000; decide)) xs_nil))) (by show 3 ≤ 100000; decide)
      refine q_forG eG (fun H8 i σ H' => ∃ y2, σ = [some (.ref a), some (.ref S.1), some (.str tx), y, y2, none, none] ∧ Ex H8 H') (fun H8 e8 => ⟨none, rfl, Evl.Ex.refl _⟩) (fun H8 i σ' H9 hP => hP.choose_spec.2) (fun xs H8 i v σ' H9 e8 hxs hi hP => ?_) (fun H8 n σ' H9 e8 hP => ?_)
      · obtain ⟨y2, rfl, e9⟩ := hP
        obtain ⟨b, dd, h1, rfl, h3⟩ := hxs.get hi
        have hdd : dd = (cs 13, none) := by
          match i, h1 with
          | 0, h1 => exact (Option.some.inj h1).symm
          | 1, h1 => exact (Option.some.inj h1).symm
          | 2, h1 => exact (Option.some.inj h1).symm
          | i + 3, h1 => simp at h1
        subst hdd
        have h4 := h3.mono e9
        refine Dl.s_if (F := H9) (c := false) (Dl.tis (Dl.tor (a := false) (b := false) (Dl.tnot (a := true) (ev_isVD C (by decide) h4 rfl)) (fun _ => Dl.test (Dl.is_ (Dl.op (ev_matches13 rfl h4) (Dl.lst Dl.nil (by decide)) (Dl.neD (by decide +kernel) (by decide +kernel))) (congrArg PyData.bool (by decide +kernel : (!PyData.eqv (.list []) (.list [])) = false))))) rfl)
          (Evl.Ex.refl _) (fun z => Bool.noConfusion z) (fun _ F1 H1' s1 => ?_)
        exact ⟨_, rfl, e9.trans s1.h⟩
      · obtain ⟨y2, rfl, e9⟩ := hP
        have hs9 : Src H9 S 1 := (hs'.mono e8).mono e9
        -- the contents
        refine ⟨_, rfl, S, 1, rfl, hs9, by decide, fun p k H10 _ tp => ?_⟩
        have t0 := tp
        cases tp with
        | @lst _ xs2 _ h10 t10 =>
          have ev0 : Dl.Ev (tC (.ref p)) [some (V.ref a), some (.ref S.1), some (.str tx), y, y2, none, none] H10 (.list (contents k)) := fun F1 H1 a1 b1 Q1 q1 => q1 _ F1 H1 (.refl b1) (t0.mono a1)
          have cmp : Dl.Ev (tLc (iList K (tC (.ref p))) (gName 6) (tNot (tB (tCall spHolds [] E0 (tCons (tVar 6) tNil)))) (tVar 6) [6]) [some (V.ref a), some (.ref S.1), some (.str tx), y, y2, none, none] H10 (.list (Dl.kept 22 (fun _ => false) fun _ => .none)) :=
            Dl.lcL (fun _ => false) (fun _ => .none) ev0 (by show 22 ≤ 40000; decide) (fun _ => rfl) (fun i v d G eg hd td => Dl.tnot (a := true) fun F2 H2 a2 b2 Q2 q2 =>
              ⟨_, rfl, v, d, rfl, (td.mono a2).mono b2, contents_good k d (List.mem_of_getElem? hd), fun H3 e3 => ⟨true, rfl, q2 F2 H3 ⟨Evl.Ex.refl _, e3, b2.trans e3, Dl.Nw.refl⟩⟩⟩) (fun i v d G eg hd td z => Bool.noConfusion z)
          have fin := Dl.op cmp (Dl.lst Dl.nil (by decide)) (Dl.eqD (K := K) (d2 := .list []) (by decide +kernel) (by decide +kernel))
          exact fin H10 H10 (Evl.Ex.refl _) (Evl.Ex.refl _) _ fun x F H11 s11 tx' => by
            have e : PyData.eqv (.list (Dl.kept 22 (fun _ => false) fun _ => .none)) (.list []) = true := by decide +kernel
            rw [e] at tx'
            cases tx'
            exact q _
end
end Lw
set_option Elab.async false
set_option linter.all false
set_option maxRecDepth 100000
set_option maxHeartbeats 4000000
namespace Lw
open PySem PySem.Spec PyProof.Rows L2 ExV
abbrev veT : List Value := [.type "ValueError", .type "Exception", .type "BaseException", .type "object"]
/-- what the written part says of an error class at c, its chain behind it tl -/
structure ClsF (K : PySem.W.Frag) (name : Str) (c : Addr) (tl : List Value) : Prop where
  gl : PySem.W.nsIn K mainGlobals name = some (some (.ref c))
  xL : ∃ nm q N bs sn sub ab col dd k0 k1 k2 k3 k5, K.lookup c = some (excClassObj nm q c N bs tl true sn sub ab col dd k0 k1 k2 k3 k5 "ValueError.__new__")
  sa : PySem.W.findIn K (.ref c) "__setattr__" = some (some (.builtin "object.__setattr__"))
  ga : PySem.W.findIn K (.ref c) "__getattribute__" = some (some (.builtin "BaseException.__getattribute__"))
  gg : PySem.W.findIn K (.ref c) "__getattr__" = some none
  ha : PySem.W.findIn K (.ref c) "__class__" = some (some (.builtin "object.__class__"))
  tC : PySem.W.typeIn K (.ref c) = some (.type "type")
  kC : PySem.W.keepIn K (.ref c) = true
/-- of its own __init__, at f, the statement st, storing under n -/
structure IniF (K : PySem.W.Frag) (q : Str) (st : Stmt) (n : Str) (c f : Addr) : Prop where
  nf : PySem.W.findIn K (.ref c) n = some none
  iC : PySem.W.findIn K (.ref c) "__init__" = some (some (.ref f))
  tI : PySem.W.typeIn K (.ref f) = some (.type "function")
  kI : PySem.W.keepIn K (.ref f) = true
  fn : ∃ oc od kV doc pm an cd ct sl, K.lookup f = some ⟨oc, od, .func (PySem.W.fnOf "__init__" q (defArgs st) (defBody st) (defScope st) .none kV doc pm an cd ct), sl⟩ ∧ PySem.W.codeIn K cd q = true
/-- of a def of the text -/
structure DefF (K : PySem.W.Frag) (x : Str) (st : Stmt) (f : Addr) : Prop where
  gl : PySem.W.nsIn K mainGlobals x = some (some (.ref f))
  kp : PySem.W.keepIn K (.ref f) = true
  fn : ∃ oc od kV doc pm an cd ct sl, K.lookup f = some ⟨oc, od, .func (PySem.W.fnOf x x (defArgs st) (defBody st) (defScope st) .none kV doc pm an cd ct), sl⟩ ∧ PySem.W.codeIn K cd x = true
theorem ClsF.of {K : PySem.W.Frag} {name : Str} {c : Addr} {tl : List Value} {nm q : Str} {N : Addr} {bs : List Value} {sn : List Str} {sub : List Value} {ab : Bool} {col : Option Bool} {dd : Option Addr} {k0 k1 k2 k3 k5 : Option Value}
    (gl : PySem.W.nsIn K mainGlobals name = some (some (.ref c))) (xL : K.lookup c = some (excClassObj nm q c N bs tl true sn sub ab col dd k0 k1 k2 k3 k5 "ValueError.__new__"))
    (sa : PySem.W.findIn K (.ref c) "__setattr__" = some (some (.builtin "object.__setattr__"))) (ga : PySem.W.findIn K (.ref c) "__getattribute__" = some (some (.builtin "BaseException.__getattribute__"))) (gg : PySem.W.findIn K (.ref c) "__getattr__" = some none)
    (ha : PySem.W.findIn K (.ref c) "__class__" = some (some (.builtin "object.__class__"))) (tC : PySem.W.typeIn K (.ref c) = some (.type "type")) (kC : PySem.W.keepIn K (.ref c) = true) : ClsF K name c tl := ⟨gl, ⟨_, _, _, _, _, _, _, _, _, _, _, _, _, _, xL⟩, sa, ga, gg, ha, tC, kC⟩
theorem IniF.of {K : PySem.W.Frag} {q : Str} {st : Stmt} {n : Str} {c f : Addr} {oc : Value} {od : Option Addr} {kV doc pm : Value} {an : Option Addr} {cd ct : Value} {sl : Array (Option Value)} (iC : PySem.W.findIn K (.ref c) "__init__" = some (some (.ref f)))
    (nf : PySem.W.findIn K (.ref c) n = some none) (tI : PySem.W.typeIn K (.ref f) = some (.type "function")) (kI : PySem.W.keepIn K (.ref f) = true)
    (l : K.lookup f = some ⟨oc, od, .func (PySem.W.fnOf "__init__" q (defArgs st) (defBody st) (defScope st) .none kV doc pm an cd ct), sl⟩) (cc : PySem.W.codeIn K cd q = true) : IniF K q st n c f := ⟨nf, iC, tI, kI, _, _, _, _, _, _, _, _, _, l, cc⟩
theorem DefF.of {K : PySem.W.Frag} {x : Str} {st : Stmt} {f : Addr} {oc : Value} {od : Option Addr} {kV doc pm : Value} {an : Option Addr} {cd ct : Value} {sl : Array (Option Value)} (gl : PySem.W.nsIn K mainGlobals x = some (some (.ref f))) (kp : PySem.W.keepIn K (.ref f) = true)
    (l : K.lookup f = some ⟨oc, od, .func (PySem.W.fnOf x x (defArgs st) (defBody st) (defScope st) .none kV doc pm an cd ct), sl⟩) (cc : PySem.W.codeIn K cd x = true) : DefF K x st f := ⟨gl, kp, _, _, _, _, _, _, _, _, _, l, cc⟩
section
variable {K : PySem.W.Frag} {n : Str} {c d : Addr} {tl : List Value}
theorem ClsF.cls (z : ClsF K n c tl) : ∃ cd, PySem.W.clsIn K c = some cd ∧ cd.mro = .ref c :: tl ∧ cd.hasDict = true := by
  obtain ⟨nm, q, N, bs, sn, sub, ab, col, dd, k0, k1, k2, k3, k5, h⟩ := z.xL
  refine ⟨{ name := nm, bases := bs, mro := .ref c :: tl, ns := N, qualname := q, hasDict := true, slotNames := sn, subclasses := sub, abstract := ab, collection := col, hasDel := false }, ?_, rfl, rfl⟩
  unfold PySem.W.clsIn
  rw [h] <;> rfl
theorem ClsF.mro (z : ClsF K n c tl) (v : Value) : PySem.W.mroIn K c v = some ((Value.ref c :: tl).contains v) := by
  obtain ⟨cd, h1, h2, _⟩ := z.cls
  unfold PySem.W.mroIn
  rw [h1, Option.bind_some, h2]
  rfl
theorem ClsF.hd (z : ClsF K n c tl) : PySem.W.hasDictIn K c = true := by
  obtain ⟨cd, h1, _, h3⟩ := z.cls
  unfold PySem.W.hasDictIn
  rw [h1]
  exact h3
theorem ClsF.exc (z : ClsF K n c tl) (hb : tl.contains (.type "BaseException") = true) (ho : tl.contains (.type "object") = true) (hn : PySem.W.specialIn K (.builtin "object.__class__") "__get__" = some (some (.builtin "getset_descriptor.__get__"))) (ht : PySem.W.takesIn K (.builtin "object.__class__") = some true) : ExcC K c where
  hg := z.ga
  hk := z.gg
  hs := by
    show PySem.W.mroIn K c _ = _
    rw [z.mro, List.contains_cons, hb, Bool.or_true]
  hd := z.hd
  ha := z.ha
  hn := hn
  ht := ht
  hm := by rw [z.mro, List.contains_cons, ho, Bool.or_true]
theorem ClsF.xf (z : ClsF K n c tl) (hb : tl.contains (.type "BaseException") = true) : XfC K c := ⟨z.ga, z.gg, by
    show PySem.W.mroIn K c _ = _
    rw [z.mro, List.contains_cons, hb, Bool.or_true], z.hd⟩
theorem ClsF.oex (z : ClsF K n c tl) (hb : tl.contains (.type "BaseException") = true) (hv : PySem.HandSPX.refsVE tl = true) : OexC K c where
  cls := by
    obtain ⟨nm, q, N, bs, sn, sub, ab, col, dd, k0, k1, k2, k3, k5, h⟩ := z.xL
    exact ⟨nm, q, N, bs, tl, sn, sub, ab, col, dd, k0, k1, k2, k3, k5, h, hv⟩
  sa := z.sa
  exC := by
    show PySem.W.mroIn K c _ = _
    rw [z.mro, List.contains_cons, hb, Bool.or_true]
  tyC := z.tC
  kC := z.kC
theorem ClsF.kit {m : Str} {tm : List Value} (z : ClsF K n c tl) (y : ClsF K m d tm) : PySem.W.kitOne K (.ref c) (.ref d) = some (decide (c = d) || tl.contains (.ref d)) := by
  obtain ⟨cd, h1, _⟩ := y.cls
  unfold PySem.W.kitOne
  by_cases e : c = d
  · subst e
    rw [if_pos (by simp), decide_eq_true rfl, Bool.true_or]
  · have e1 : (Value.ref c == Value.ref d) = false := by simpa using e
    have e2 : (Value.ref d == Value.ref c) = false := by simpa using Ne.symm e
    rw [e1, if_neg Bool.false_ne_true, decide_eq_false e, Bool.false_or]
    show (if ((PySem.W.clsIn K d).isSome && PySem.W.typeIn K (.ref d) == some (.type "type")) = true then PySem.W.subIn K (.ref c) (.ref d) else none) = _
    rw [if_pos (by rw [h1, y.tC]; rfl)]
    show PySem.W.mroIn K c _ = _
    rw [z.mro, List.contains_cons, e2, Bool.false_or]
theorem ClsF.kitV (z : ClsF K n c tl) (hv : tl.contains (.type "ValueError") = true) : PySem.W.kitOne K (.ref c) (.type "ValueError") = some true := by
  unfold PySem.W.kitOne
  rw [if_neg (by simp)]
  show (if PySem.W.kitMeta "ValueError" = true then PySem.W.subIn K (.ref c) (.type "ValueError") else none) = _
  rw [if_pos (by decide +kernel)]
  show PySem.W.mroIn K c _ = _
  rw [z.mro, List.contains_cons, hv, Bool.or_true]
end
section
variable {P : Program} {w : World} {K : PySem.W.Frag} {mg : Str → Option Value} {base : Heap} {cs : Nat → Addr}
theorem DefF.fun_ {x : Str} {st : Stmt} {f : Addr} (z : DefF K x st f) : ∃ fd, Fun K x x st f fd := by
  obtain ⟨oc, od, kV, doc, pm, an, cd, ct, sl, h, hc⟩ := z.fn
  exact ⟨_, fun_mk h hc z.kp⟩
/-- def __init__(self, n): self.n = n -/
theorem ini_ok {q : Str} {st : Stmt} {n : Str} {c f : Addr} (T : OexC K c) (z : IniF K q st n c f)
    (S : FnScope ["self", n] ["self", n] (defScope st))
    (body : ∀ (cdv : Value) (A : Around) (outer : List Env) (s : Shared) (H : Hp) (E : XK), PSs (cxOf CX0 P w K mg base ["self", n] q (defScope st) f cdv A outer s H E).nox (defBody st) (tOst K n (tVar 0) (tVar 1)))
    (binds : ∀ (kV doc pm : Value) (an : Option Addr) (cdv ct : Value) (u v : Value), bindArgs (PySem.W.fnOf "__init__" q (defArgs st) (defBody st) (defScope st) .none kV doc pm an cdv ct) ⟨[u, v], []⟩ = pure ([("self", u), (n, v)] : List (Str × Value)))
    (bindk : ∀ (kV doc pm : Value) (an : Option Addr) (cdv ct : Value) (u v : Value), bindArgs (PySem.W.fnOf "__init__" q (defArgs st) (defBody st) (defScope st) .none kV doc pm an cdv ct) ⟨[u], [(n, v)]⟩ = pure ([("self", u), (n, v)] : List (Str × Value))) :
    IniC P w K mg base c f n := by
  obtain ⟨oc, od, kV, doc, pm, an, cd, ct, sl, h, hc⟩ := z.fn
  have F : Fun K "__init__" q st f _ := fun_mk h hc z.kI
  refine ⟨T, z.iC, z.tI, _, ?_, fun s u v => .of_eq (binds kV doc pm an cd ct u v), fun s u v => .of_eq (bindk kV doc pm an cd ct u v)⟩
  refine F.ok (k := 0) S (fun vs H Q E h => ?_) (fun cdv A outer s H vs Q E hr h => ⟨_, body cdv A outer s H E, ?_⟩)
  · obtain ⟨a, y, rfl, _⟩ := h
    rfl
  · obtain ⟨a, y, rfl, ha, k⟩ := h
    exact ⟨y, rfl, _, rfl, a, c, rfl, T, z.nf, .inl ⟨ha, fun dx n1 n2 => k dx n1 n2⟩⟩
end
end Lw
set_option Elab.async false
set_option linter.all false
set_option maxRecDepth 100000
set_option maxHeartbeats 4000000
namespace Lw
open PySem PySem.Spec PyProof.Rows L2 ExV
theorem all14 {p : Nat → Prop} (h0 : p 0) (h1 : p 1) (h2 : p 2) (h3 : p 3) (h4 : p 4) (h5 : p 5) (h6 : p 6) (h7 : p 7) (h8 : p 8) (h9 : p 9) (h10 : p 10) (h11 : p 11) (h12 : p 12) (h13 : p 13) : ∀ i, i < 14 → p i
  | 0, _ => h0
  | 1, _ => h1
  | 2, _ => h2
  | 3, _ => h3
  | 4, _ => h4
  | 5, _ => h5
  | 6, _ => h6
  | 7, _ => h7
  | 8, _ => h8
  | 9, _ => h9
  | 10, _ => h10
  | 11, _ => h11
  | 12, _ => h12
  | 13, _ => h13
  | i + 14, h => absurd h (by omega)
theorem in_ve {c : Addr} : veT.contains (.ref c) = false := by
  unfold veT
  simp
theorem in_tl {c d : Addr} : (Value.ref c :: veT).contains (.ref d) = decide (d = c) := by
  rw [List.contains_cons, in_ve, Bool.or_false]
  by_cases e : d = c
  · subst e
    simp
  · rw [decide_eq_false e]
    simpa using e
section
variable {P : Program} {w : World} {K : PySem.W.Frag} {mg : Str → Option Value} {base : Heap}
abbrev sIni8 : Stmt := inClass (topS 10) 0
theorem scIni8 : FnScope ["self", "reason"] ["self", "reason"] (defScope sIni8) := ⟨rfl, rfl, rfl, by decide +kernel, rfl, by decide +kernel, by decide +kernel⟩
theorem ok_ini8 {c f : Addr} (T : OexC K c) (z : IniF K "InvalidArrangement.__init__" sIni8 "reason" c f) : IniC P w K mg base c f "reason" :=
  ini_ok T z scIni8 (fun cdv A outer s H E => pss_one (ps_ost (pv 0) (pv 1))) (fun _ _ _ _ _ _ _ _ => rfl) (fun _ _ _ _ _ _ _ _ => rfl)
abbrev sIni9 : Stmt := inClass (topS 11) 0
theorem scIni9 : FnScope ["self", "reason"] ["self", "reason"] (defScope sIni9) := ⟨rfl, rfl, rfl, by decide +kernel, rfl, by decide +kernel, by decide +kernel⟩
theorem ok_ini9 {c f : Addr} (T : OexC K c) (z : IniF K "InvalidInventory.__init__" sIni9 "reason" c f) : IniC P w K mg base c f "reason" :=
  ini_ok T z scIni9 (fun cdv A outer s H E => pss_one (ps_ost (pv 0) (pv 1))) (fun _ _ _ _ _ _ _ _ => rfl) (fun _ _ _ _ _ _ _ _ => rfl)
abbrev sIni10 : Stmt := inClass (topS 12) 0
theorem scIni10 : FnScope ["self", "reason"] ["self", "reason"] (defScope sIni10) := ⟨rfl, rfl, rfl, by decide +kernel, rfl, by decide +kernel, by decide +kernel⟩
theorem ok_ini10 {c f : Addr} (T : OexC K c) (z : IniF K "InvalidMove.__init__" sIni10 "reason" c f) : IniC P w K mg base c f "reason" :=
  ini_ok T z scIni10 (fun cdv A outer s H E => pss_one (ps_ost (pv 0) (pv 1))) (fun _ _ _ _ _ _ _ _ => rfl) (fun _ _ _ _ _ _ _ _ => rfl)
abbrev sIni11 : Stmt := inClass (topS 13) 0
theorem scIni11 : FnScope ["self", "reason"] ["self", "reason"] (defScope sIni11) := ⟨rfl, rfl, rfl, by decide +kernel, rfl, by decide +kernel, by decide +kernel⟩
theorem ok_ini11 {c f : Addr} (T : OexC K c) (z : IniF K "InvalidMoves.__init__" sIni11 "reason" c f) : IniC P w K mg base c f "reason" :=
  ini_ok T z scIni11 (fun cdv A outer s H E => pss_one (ps_ost (pv 0) (pv 1))) (fun _ _ _ _ _ _ _ _ => rfl) (fun _ _ _ _ _ _ _ _ => rfl)
abbrev sIni12 : Stmt := inClass (topS 14) 0
theorem scIni12 : FnScope ["self", "slot"] ["self", "slot"] (defScope sIni12) := ⟨rfl, rfl, rfl, by decide +kernel, rfl, by decide +kernel, by decide +kernel⟩
theorem ok_ini12 {c f : Addr} (T : OexC K c) (z : IniF K "PinnedSlot.__init__" sIni12 "slot" c f) : IniC P w K mg base c f "slot" :=
  ini_ok T z scIni12 (fun cdv A outer s H E => pss_one (ps_ost (pv 0) (pv 1))) (fun _ _ _ _ _ _ _ _ => rfl) (fun _ _ _ _ _ _ _ _ => rfl)
def csOf (l : List Addr) : Nat → Addr := fun i => l.getD i 0
theorem all5 {p : Nat → Prop} (h8 : p 8) (h9 : p 9) (h10 : p 10) (h11 : p 11) (h12 : p 12) : ∀ i, 8 ≤ i → i < 13 → p i
  | 0, h, _ => absurd h (by omega)
  | 1, h, _ => absurd h (by omega)
  | 2, h, _ => absurd h (by omega)
  | 3, h, _ => absurd h (by omega)
  | 4, h, _ => absurd h (by omega)
  | 5, h, _ => absurd h (by omega)
  | 6, h, _ => absurd h (by omega)
  | 7, h, _ => absurd h (by omega)
  | 8, _, _ => h8
  | 9, _, _ => h9
  | 10, _, _ => h10
  | 11, _, _ => h11
  | 12, _, _ => h12
  | i + 13, _, h => absurd h (by omega)
theorem tB (c : Addr) (i : Nat) : (if i = 13 then veT else .ref c :: veT).contains (.type "BaseException") = true := by
  split <;> simp
theorem tO (c : Addr) (i : Nat) : (if i = 13 then veT else .ref c :: veT).contains (.type "object") = true := by
  split <;> simp
theorem tV (c : Addr) (i : Nat) : (if i = 13 then veT else .ref c :: veT).contains (.type "ValueError") = true := by
  split <;> simp
theorem kits_mk {cs : Nat → Addr} (cse : ∀ i j, i < 14 → j < 14 → cs i = cs j → i = j) (zz : ∀ i, i < 14 → ∃ n, ClsF K n (cs i) (if i = 13 then veT else .ref (cs 13) :: veT))
    (hn : PySem.W.specialIn K (.builtin "object.__class__") "__get__" = some (some (.builtin "getset_descriptor.__get__"))) (ht : PySem.W.takesIn K (.builtin "object.__class__") = some true) : Kits K cs := by
  refine ⟨fun i hi => ?_, fun i j hi hj => ?_, fun i hi => ?_⟩
  · obtain ⟨n, z⟩ := zz i hi
    exact z.exc (tB _ i) (tO _ i) hn ht
  · obtain ⟨n, z⟩ := zz i hi
    obtain ⟨m, y⟩ := zz j hj
    rw [z.kit y]
    unfold hit
    by_cases e13 : i = 13
    · subst e13
      rw [if_pos rfl, in_ve, Bool.or_false]
      by_cases ej : (13 : Nat) = j
      · subst ej
        simp
      · have n1 : ¬ cs 13 = cs j := fun q => ej (cse _ _ (by decide) hj q)
        have n2 : ¬ j = 13 := fun q => ej q.symm
        rw [decide_eq_false n1, decide_eq_false ej, decide_eq_false n2] <;> rfl
    · rw [if_neg e13, in_tl]
      have d1 : decide (cs i = cs j) = decide (i = j) := by
        by_cases e : i = j
        · subst e
          simp
        · rw [decide_eq_false e, decide_eq_false fun q => e (cse _ _ hi hj q)]
      have d2 : decide (cs j = cs 13) = decide (j = 13) := by
        by_cases e : j = 13
        · subst e
          simp
        · rw [decide_eq_false e, decide_eq_false fun q => e (cse _ _ hj (by decide) q)]
      rw [d1, d2]
  · obtain ⟨n, z⟩ := zz i hi
    exact z.kitV (tV _ i)
theorem xfs_mk {cs : Nat → Addr} (zz : ∀ i, i < 14 → ∃ n, ClsF K n (cs i) (if i = 13 then veT else .ref (cs 13) :: veT)) (nf : ∀ i, 8 ≤ i → i < 13 → PySem.W.findIn K (.ref (cs i)) (fld i) = some none) : Xfs K cs :=
  ⟨fun i h8 h13 => by
    obtain ⟨n, z⟩ := zz i (by omega)
    exact ⟨z.xf (tB _ i), nf i h8 h13⟩⟩
theorem all_mk {l : PySem.W.OpenLaw} {h : Heap} {fa c0 c1 c2 c3 c4 c5 c6 c7 c8 c9 c10 c11 c12 c13 f8 f9 f10 f11 f12 d16 d17 d18 d19 d20 d21 d22 d23 d24 d25 d26 d27 : Addr} (X : K.In h) (G : h.Ns mainGlobals mg) (hfa : mg "law" = some (.ref fa))
    (z0 : ClsF K "InvalidIndex" c0 (.ref c13 :: veT))
    (z1 : ClsF K "InvalidPins" c1 (.ref c13 :: veT))
    (z2 : ClsF K "InvalidPlacements" c2 (.ref c13 :: veT))
    (z3 : ClsF K "NotPinned" c3 (.ref c13 :: veT))
    (z4 : ClsF K "NothingToUndo" c4 (.ref c13 :: veT))
    (z5 : ClsF K "PlacementNotMet" c5 (.ref c13 :: veT))
    (z6 : ClsF K "UnknownItem" c6 (.ref c13 :: veT))
    (z7 : ClsF K "UnknownSlot" c7 (.ref c13 :: veT))
    (z8 : ClsF K "InvalidArrangement" c8 (.ref c13 :: veT))
    (z9 : ClsF K "InvalidInventory" c9 (.ref c13 :: veT))
    (z10 : ClsF K "InvalidMove" c10 (.ref c13 :: veT))
    (z11 : ClsF K "InvalidMoves" c11 (.ref c13 :: veT))
    (z12 : ClsF K "PinnedSlot" c12 (.ref c13 :: veT))
    (z13 : ClsF K "LikeholesError" c13 veT)
    (nd : [c0, c1, c2, c3, c4, c5, c6, c7, c8, c9, c10, c11, c12, c13].Nodup)
    (x0 : PySem.W.excIn K c0 [.type "ValueError", .type "Exception", .type "BaseException", .type "object"] "ValueError.__new__" = true)
    (x1 : PySem.W.excIn K c1 [.type "ValueError", .type "Exception", .type "BaseException", .type "object"] "ValueError.__new__" = true)
    (x2 : PySem.W.excIn K c2 [.type "ValueError", .type "Exception", .type "BaseException", .type "object"] "ValueError.__new__" = true)
    (x3 : PySem.W.excIn K c3 [.type "ValueError", .type "Exception", .type "BaseException", .type "object"] "ValueError.__new__" = true)
    (x4 : PySem.W.excIn K c4 [.type "ValueError", .type "Exception", .type "BaseException", .type "object"] "ValueError.__new__" = true)
    (x5 : PySem.W.excIn K c5 [.type "ValueError", .type "Exception", .type "BaseException", .type "object"] "ValueError.__new__" = true)
    (x6 : PySem.W.excIn K c6 [.type "ValueError", .type "Exception", .type "BaseException", .type "object"] "ValueError.__new__" = true)
    (x7 : PySem.W.excIn K c7 [.type "ValueError", .type "Exception", .type "BaseException", .type "object"] "ValueError.__new__" = true)
    (x13 : PySem.W.excIn K c13 [.type "ValueError", .type "Exception", .type "BaseException", .type "object"] "ValueError.__new__" = true)
    (i8 : IniF K "InvalidArrangement.__init__" sIni8 "reason" c8 f8)
    (i9 : IniF K "InvalidInventory.__init__" sIni9 "reason" c9 f9)
    (i10 : IniF K "InvalidMove.__init__" sIni10 "reason" c10 f10)
    (i11 : IniF K "InvalidMoves.__init__" sIni11 "reason" c11 f11)
    (i12 : IniF K "PinnedSlot.__init__" sIni12 "slot" c12 f12)
    (e16 : DefF K "_law_source" (topS 16) d16)
    (e17 : DefF K "_law_draw" (topS 17) d17)
    (e18 : DefF K "_law_pick" (topS 18) d18)
    (e19 : DefF K "_law_matches" (topS 19) d19)
    (e20 : DefF K "_law_simple" (topS 20) d20)
    (e21 : DefF K "_law_empty" (topS 21) d21)
    (e22 : DefF K "_law_by_position" (topS 22) d22)
    (e23 : DefF K "_law_by_keyword" (topS 23) d23)
    (e24 : DefF K "_law_contents" (topS 24) d24)
    (e25 : DefF K "_law_is_same" (topS 25) d25)
    (e26 : DefF K "_law_holds" (topS 26) d26)
    (e27 : DefF K "law" (topS 27) d27)
    (b_range : PySem.W.nsIn K mainGlobals "range" = some none)
    (b_len : PySem.W.nsIn K mainGlobals "len" = some none)
    (b_abs : PySem.W.nsIn K mainGlobals "abs" = some none)
    (b_isinstance : PySem.W.nsIn K mainGlobals "isinstance" = some none)
    (b_bool : PySem.W.nsIn K mainGlobals "bool" = some none)
    (b_ValueError : PySem.W.nsIn K mainGlobals "ValueError" = some none)
    (hn : PySem.W.specialIn K (.builtin "object.__class__") "__get__" = some (some (.builtin "getset_descriptor.__get__"))) (ht : PySem.W.takesIn K (.builtin "object.__class__") = some true) :
    ∃ fd : FuncData, (∀ (s : Shared) (v : Value), BindsTo s fd ⟨[v], []⟩ [("_law_script", v)]) ∧ ∀ base : Heap, K.In base → base.Ns mainGlobals mg → FnOk l.prog w K mg base CX0 5 fa fd ["_law_script"] (spLaw K) := by
  have e1 : ∀ k, k < 14 → [c0, c1, c2, c3, c4, c5, c6, c7, c8, c9, c10, c11, c12, c13][k]? = some ((csOf [c0, c1, c2, c3, c4, c5, c6, c7, c8, c9, c10, c11, c12, c13]) k) := all14 rfl rfl rfl rfl rfl rfl rfl rfl rfl rfl rfl rfl rfl rfl
  have cse : ∀ i j, i < 14 → j < 14 → (csOf [c0, c1, c2, c3, c4, c5, c6, c7, c8, c9, c10, c11, c12, c13]) i = (csOf [c0, c1, c2, c3, c4, c5, c6, c7, c8, c9, c10, c11, c12, c13]) j → i = j := fun i j hi hj e => nd_ix nd (e1 i hi) (by rw [e]; exact e1 j hj)
  have zz : ∀ i, i < 14 → ∃ n, ClsF K n ((csOf [c0, c1, c2, c3, c4, c5, c6, c7, c8, c9, c10, c11, c12, c13]) i) (if i = 13 then veT else .ref ((csOf [c0, c1, c2, c3, c4, c5, c6, c7, c8, c9, c10, c11, c12, c13]) 13) :: veT) := all14 ⟨_, z0⟩ ⟨_, z1⟩ ⟨_, z2⟩ ⟨_, z3⟩ ⟨_, z4⟩ ⟨_, z5⟩ ⟨_, z6⟩ ⟨_, z7⟩ ⟨_, z8⟩ ⟨_, z9⟩ ⟨_, z10⟩ ⟨_, z11⟩ ⟨_, z12⟩ ⟨_, z13⟩
  have gls : Gls mg (csOf [c0, c1, c2, c3, c4, c5, c6, c7, c8, c9, c10, c11, c12, c13]) := ⟨PySem.W.mg_of X G z0.gl, PySem.W.mg_of X G z1.gl, PySem.W.mg_of X G z2.gl, PySem.W.mg_of X G z3.gl, PySem.W.mg_of X G z4.gl, PySem.W.mg_of X G z5.gl, PySem.W.mg_of X G z6.gl, PySem.W.mg_of X G z7.gl, PySem.W.mg_of X G z8.gl, PySem.W.mg_of X G z9.gl, PySem.W.mg_of X G z10.gl, PySem.W.mg_of X G z11.gl, PySem.W.mg_of X G z12.gl, PySem.W.mg_of X G z13.gl⟩
  have kits : Kits K (csOf [c0, c1, c2, c3, c4, c5, c6, c7, c8, c9, c10, c11, c12, c13]) := kits_mk cse zz hn ht
  have pl : Plain K (csOf [c0, c1, c2, c3, c4, c5, c6, c7, c8, c9, c10, c11, c12, c13]) := ⟨all14 (fun _ => x0) (fun _ => x1) (fun _ => x2) (fun _ => x3) (fun _ => x4) (fun _ => x5) (fun _ => x6) (fun _ => x7) (fun h => absurd h (by decide)) (fun h => absurd h (by decide)) (fun h => absurd h (by decide)) (fun h => absurd h (by decide)) (fun h => absurd h (by decide)) (fun _ => x13), all14 z0.kC z1.kC z2.kC z3.kC z4.kC z5.kC z6.kC z7.kC z8.kC z9.kC z10.kC z11.kC z12.kC z13.kC⟩
  have vT : PySem.HandSPX.refsVE (.ref c13 :: veT) = true := by rfl
  have xfs : Xfs K (csOf [c0, c1, c2, c3, c4, c5, c6, c7, c8, c9, c10, c11, c12, c13]) := xfs_mk zz (all5 i8.nf i9.nf i10.nf i11.nf i12.nf)
  have hB : (Value.ref c13 :: veT).contains (.type "BaseException") = true := by simp
  have mi := PySem.W.mg_none_of X G b_isinstance
  have mr := PySem.W.mg_none_of X G b_range
  have ml := PySem.W.mg_none_of X G b_len
  have ma := PySem.W.mg_none_of X G b_abs
  have mb := PySem.W.mg_none_of X G b_bool
  have mV := PySem.W.mg_none_of X G b_ValueError
  obtain ⟨g16, F16⟩ := e16.fun_
  have m16 := PySem.W.mg_of X G e16.gl
  have B16 : Binds K g16 ["_law_script"] [] := F16.binds (ps := ["_law_script"]) fun _ _ _ _ _ _ us hl => match us, hl with | [_], _ => rfl
  obtain ⟨g17, F17⟩ := e17.fun_
  have m17 := PySem.W.mg_of X G e17.gl
  have B17 : Binds K g17 ["_law_source_here", "_law_limit"] [] := F17.binds (ps := ["_law_source_here", "_law_limit"]) fun _ _ _ _ _ _ us hl => match us, hl with | [_, _], _ => rfl
  obtain ⟨g18, F18⟩ := e18.fun_
  have m18 := PySem.W.mg_of X G e18.gl
  have B18 : Binds K g18 ["_law_source_here", "_law_values"] [] := F18.binds (ps := ["_law_source_here", "_law_values"]) fun _ _ _ _ _ _ us hl => match us, hl with | [_, _], _ => rfl
  obtain ⟨g19, F19⟩ := e19.fun_
  have m19 := PySem.W.mg_of X G e19.gl
  have B19 : Binds K g19 ["_law_error"] [] := F19.binds (ps := ["_law_error"]) fun _ _ _ _ _ _ us hl => match us, hl with | [_], _ => rfl
  obtain ⟨g20, F20⟩ := e20.fun_
  have m20 := PySem.W.mg_of X G e20.gl
  have B20 : Binds K g20 ["_law_text"] [] := F20.binds (ps := ["_law_text"]) fun _ _ _ _ _ _ us hl => match us, hl with | [_], _ => rfl
  obtain ⟨g21, F21⟩ := e21.fun_
  have m21 := PySem.W.mg_of X G e21.gl
  have B21 : Binds K g21 [] [] := F21.binds (ps := []) fun _ _ _ _ _ _ us hl => match us, hl with | [], _ => rfl
  obtain ⟨g22, F22⟩ := e22.fun_
  have m22 := PySem.W.mg_of X G e22.gl
  have B22 : Binds K g22 ["_law_content"] [] := F22.binds (ps := ["_law_content"]) fun _ _ _ _ _ _ us hl => match us, hl with | [_], _ => rfl
  obtain ⟨g23, F23⟩ := e23.fun_
  have m23 := PySem.W.mg_of X G e23.gl
  have B23 : Binds K g23 ["_law_content"] [] := F23.binds (ps := ["_law_content"]) fun _ _ _ _ _ _ us hl => match us, hl with | [_], _ => rfl
  obtain ⟨g24, F24⟩ := e24.fun_
  have m24 := PySem.W.mg_of X G e24.gl
  have B24 : Binds K g24 ["_law_source_here"] [] := F24.binds (ps := ["_law_source_here"]) fun _ _ _ _ _ _ us hl => match us, hl with | [_], _ => rfl
  obtain ⟨g25, F25⟩ := e25.fun_
  have m25 := PySem.W.mg_of X G e25.gl
  have B25 : Binds K g25 ["_law_one", "_law_other"] [] := F25.binds (ps := ["_law_one", "_law_other"]) fun _ _ _ _ _ _ us hl => match us, hl with | [_, _], _ => rfl
  obtain ⟨g26, F26⟩ := e26.fun_
  have m26 := PySem.W.mg_of X G e26.gl
  have B26 : Binds K g26 ["_law_content"] [] := F26.binds (ps := ["_law_content"]) fun _ _ _ _ _ _ us hl => match us, hl with | [_], _ => rfl
  obtain ⟨g27, F27⟩ := e27.fun_
  have m27 := PySem.W.mg_of X G e27.gl
  have B27 : Binds K g27 ["_law_script"] [] := F27.binds (ps := ["_law_script"]) fun _ _ _ _ _ _ us hl => match us, hl with | [_], _ => rfl
  have e := hfa.symm.trans m27
  cases e
  refine ⟨g27, fun s v => ?_, fun base kb gb => ?_⟩
  · obtain ⟨oc, od, kV, doc, pm, an, cdv, ct, osl, rfl, lk, hcd⟩ := F27.ex
    exact .of_eq rfl
  have inis : Inis l.prog w K mg base (csOf [c0, c1, c2, c3, c4, c5, c6, c7, c8, c9, c10, c11, c12, c13]) := ⟨all5 ⟨_, ok_ini8 (z8.oex hB vT) i8⟩ ⟨_, ok_ini9 (z9.oex hB vT) i9⟩ ⟨_, ok_ini10 (z10.oex hB vT) i10⟩ ⟨_, ok_ini11 (z11.oex hB vT) i11⟩ ⟨_, ok_ini12 (z12.oex hB vT) i12⟩⟩
  have GM : FnOk l.prog w K mg base CX0 1 d19 g19 ["_law_error"] (spMatches (csOf [c0, c1, c2, c3, c4, c5, c6, c7, c8, c9, c10, c11, c12, c13])) := ok_matches F19 kits gls mi mr mV
  have GS : FnOk l.prog w K mg base CX0 1 d25 g25 ["_law_one", "_law_other"] spSame := ok_same F25 mi mb
  have GP : FnOk l.prog w K mg base CX0 3 d22 g22 ["_law_content"] (spFive (csOf [c0, c1, c2, c3, c4, c5, c6, c7, c8, c9, c10, c11, c12, c13])) := ok_pos F22 inis gls
  have GK : FnOk l.prog w K mg base CX0 3 d23 g23 ["_law_content"] (spFive (csOf [c0, c1, c2, c3, c4, c5, c6, c7, c8, c9, c10, c11, c12, c13])) := ok_key F23 inis gls
  exact ok_law F27 ⟨⟨_, _, m16, e16.kp, B16, ok_source F16 mr ml ma⟩, ⟨_, _, m18, e18.kp, B18, ok_pick F18 F17 B17 m17 ml⟩, ⟨_, _, m21, e21.kp, B21, ok_empty F21 pl gls⟩, ⟨_, _, m20, e20.kp, B20, ok_simple F20 pl gls⟩,
    ⟨_, _, m19, e19.kp, B19, GM⟩, ⟨_, _, m24, e24.kp, B24, ok_contents F24 F17 B17 m17 ml mr⟩, ⟨_, _, m26, e26.kp, B26, ok_holds F26 F19 B19 m19 GM F25 B25 m25 GS F22 B22 m22 GP F23 B23 m23 GK xfs mr⟩⟩ kits gls pl mi mr mV
end
end Lw
set_option Elab.async false
set_option linter.all false
set_option maxRecDepth 100000
open PySem PySem.W PyProof.Rows
set_option maxHeartbeats 0 in
theorem PySem.Challenge.cw_likeholes_k05_error_classes_holds : PySem.Challenge.rw_likeholes_k05_error_classes.Holds := by
  w_on; o_law; k_head; (case hw => w_witness2)
  k_fill
  refine L2.walk_of (l := PySem.Challenge.rw_likeholes_k05_error_classes) (n := 63) (k := 5) (x := "_law_script") (CX := fun _ => L2.CX0) (sp := fun w => Lw.spLaw _) rfl (by decide) rfl ⟨rfl, by decide, by decide⟩ (fun w h Y => PySem.W.kIn_of Y) ?F (fun _ _ a ns hl _ hS => ⟨a, ns, rfl, hS, hl, fun _ => rfl⟩) (fun _ _ _ _ _ h => h)
  case F =>
    intro w mg fa h KX G hmg
    refine' Lw.all_mk KX G hmg ?z0 ?z1 ?z2 ?z3 ?z4 ?z5 ?z6 ?z7 ?z8 ?z9 ?z10 ?z11 ?z12 ?z13 ?nd ?x0 ?x1 ?x2 ?x3 ?x4 ?x5 ?x6 ?x7 ?x13 ?i8 ?i9 ?i10 ?i11 ?i12 ?e16 ?e17 ?e18 ?e19 ?e20 ?e21 ?e22 ?e23 ?e24 ?e25 ?e26 ?e27 ?b0 ?b1 ?b2 ?b3 ?b4 ?b5 ?hn ?ht
    (case z0 => refine' Lw.ClsF.of ?q1 ?q2 ?q3 ?q4 ?q5 ?q6 ?q7 ?q8; (case q1 => k_is); (case q2 => k_is); (case q3 => k_is); (case q4 => k_is); (case q5 => k_is); (case q6 => k_is); (case q7 => k_is); (case q8 => k_is))
    (case z1 => refine' Lw.ClsF.of ?q1 ?q2 ?q3 ?q4 ?q5 ?q6 ?q7 ?q8; (case q1 => k_is); (case q2 => k_is); (case q3 => k_is); (case q4 => k_is); (case q5 => k_is); (case q6 => k_is); (case q7 => k_is); (case q8 => k_is))
    (case z2 => refine' Lw.ClsF.of ?q1 ?q2 ?q3 ?q4 ?q5 ?q6 ?q7 ?q8; (case q1 => k_is); (case q2 => k_is); (case q3 => k_is); (case q4 => k_is); (case q5 => k_is); (case q6 => k_is); (case q7 => k_is); (case q8 => k_is))
    (case z3 => refine' Lw.ClsF.of ?q1 ?q2 ?q3 ?q4 ?q5 ?q6 ?q7 ?q8; (case q1 => k_is); (case q2 => k_is); (case q3 => k_is); (case q4 => k_is); (case q5 => k_is); (case q6 => k_is); (case q7 => k_is); (case q8 => k_is))
    (case z4 => refine' Lw.ClsF.of ?q1 ?q2 ?q3 ?q4 ?q5 ?q6 ?q7 ?q8; (case q1 => k_is); (case q2 => k_is); (case q3 => k_is); (case q4 => k_is); (case q5 => k_is); (case q6 => k_is); (case q7 => k_is); (case q8 => k_is))
    (case z5 => refine' Lw.ClsF.of ?q1 ?q2 ?q3 ?q4 ?q5 ?q6 ?q7 ?q8; (case q1 => k_is); (case q2 => k_is); (case q3 => k_is); (case q4 => k_is); (case q5 => k_is); (case q6 => k_is); (case q7 => k_is); (case q8 => k_is))
    (case z6 => refine' Lw.ClsF.of ?q1 ?q2 ?q3 ?q4 ?q5 ?q6 ?q7 ?q8; (case q1 => k_is); (case q2 => k_is); (case q3 => k_is); (case q4 => k_is); (case q5 => k_is); (case q6 => k_is); (case q7 => k_is); (case q8 => k_is))
    (case z7 => refine' Lw.ClsF.of ?q1 ?q2 ?q3 ?q4 ?q5 ?q6 ?q7 ?q8; (case q1 => k_is); (case q2 => k_is); (case q3 => k_is); (case q4 => k_is); (case q5 => k_is); (case q6 => k_is); (case q7 => k_is); (case q8 => k_is))
    (case z8 => refine' Lw.ClsF.of ?q1 ?q2 ?q3 ?q4 ?q5 ?q6 ?q7 ?q8; (case q1 => k_is); (case q2 => k_is); (case q3 => k_is); (case q4 => k_is); (case q5 => k_is); (case q6 => k_is); (case q7 => k_is); (case q8 => k_is))
    (case z9 => refine' Lw.ClsF.of ?q1 ?q2 ?q3 ?q4 ?q5 ?q6 ?q7 ?q8; (case q1 => k_is); (case q2 => k_is); (case q3 => k_is); (case q4 => k_is); (case q5 => k_is); (case q6 => k_is); (case q7 => k_is); (case q8 => k_is))
    (case z10 => refine' Lw.ClsF.of ?q1 ?q2 ?q3 ?q4 ?q5 ?q6 ?q7 ?q8; (case q1 => k_is); (case q2 => k_is); (case q3 => k_is); (case q4 => k_is); (case q5 => k_is); (case q6 => k_is); (case q7 => k_is); (case q8 => k_is))
    (case z11 => refine' Lw.ClsF.of ?q1 ?q2 ?q3 ?q4 ?q5 ?q6 ?q7 ?q8; (case q1 => k_is); (case q2 => k_is); (case q3 => k_is); (case q4 => k_is); (case q5 => k_is); (case q6 => k_is); (case q7 => k_is); (case q8 => k_is))
    (case z12 => refine' Lw.ClsF.of ?q1 ?q2 ?q3 ?q4 ?q5 ?q6 ?q7 ?q8; (case q1 => k_is); (case q2 => k_is); (case q3 => k_is); (case q4 => k_is); (case q5 => k_is); (case q6 => k_is); (case q7 => k_is); (case q8 => k_is))
    (case z13 => refine' Lw.ClsF.of ?q1 ?q2 ?q3 ?q4 ?q5 ?q6 ?q7 ?q8; (case q1 => k_is); (case q2 => k_is); (case q3 => k_is); (case q4 => k_is); (case q5 => k_is); (case q6 => k_is); (case q7 => k_is); (case q8 => k_is))
    (case nd => decide)
    (case x0 => k_exc)
    (case x1 => k_exc)
    (case x2 => k_exc)
    (case x3 => k_exc)
    (case x4 => k_exc)
    (case x5 => k_exc)
    (case x6 => k_exc)
    (case x7 => k_exc)
    (case x13 => k_exc)
    (case i8 => refine' Lw.IniF.of ?q1 ?q2 ?q3 ?q4 ?q5 ?q6; (case q1 => k_is); (case q2 => k_is); (case q3 => k_is); (case q4 => k_is); (case q5 => k_is); (case q6 => k_is))
    (case i9 => refine' Lw.IniF.of ?q1 ?q2 ?q3 ?q4 ?q5 ?q6; (case q1 => k_is); (case q2 => k_is); (case q3 => k_is); (case q4 => k_is); (case q5 => k_is); (case q6 => k_is))
    (case i10 => refine' Lw.IniF.of ?q1 ?q2 ?q3 ?q4 ?q5 ?q6; (case q1 => k_is); (case q2 => k_is); (case q3 => k_is); (case q4 => k_is); (case q5 => k_is); (case q6 => k_is))
    (case i11 => refine' Lw.IniF.of ?q1 ?q2 ?q3 ?q4 ?q5 ?q6; (case q1 => k_is); (case q2 => k_is); (case q3 => k_is); (case q4 => k_is); (case q5 => k_is); (case q6 => k_is))
    (case i12 => refine' Lw.IniF.of ?q1 ?q2 ?q3 ?q4 ?q5 ?q6; (case q1 => k_is); (case q2 => k_is); (case q3 => k_is); (case q4 => k_is); (case q5 => k_is); (case q6 => k_is))
    (case e16 => refine' Lw.DefF.of ?q1 ?q2 ?q3 ?q4; (case q1 => k_is); (case q2 => k_is); (case q3 => k_is); (case q4 => k_is))
    (case e17 => refine' Lw.DefF.of ?q1 ?q2 ?q3 ?q4; (case q1 => k_is); (case q2 => k_is); (case q3 => k_is); (case q4 => k_is))
    (case e18 => refine' Lw.DefF.of ?q1 ?q2 ?q3 ?q4; (case q1 => k_is); (case q2 => k_is); (case q3 => k_is); (case q4 => k_is))
    (case e19 => refine' Lw.DefF.of ?q1 ?q2 ?q3 ?q4; (case q1 => k_is); (case q2 => k_is); (case q3 => k_is); (case q4 => k_is))
    (case e20 => refine' Lw.DefF.of ?q1 ?q2 ?q3 ?q4; (case q1 => k_is); (case q2 => k_is); (case q3 => k_is); (case q4 => k_is))
    (case e21 => refine' Lw.DefF.of ?q1 ?q2 ?q3 ?q4; (case q1 => k_is); (case q2 => k_is); (case q3 => k_is); (case q4 => k_is))
    (case e22 => refine' Lw.DefF.of ?q1 ?q2 ?q3 ?q4; (case q1 => k_is); (case q2 => k_is); (case q3 => k_is); (case q4 => k_is))
    (case e23 => refine' Lw.DefF.of ?q1 ?q2 ?q3 ?q4; (case q1 => k_is); (case q2 => k_is); (case q3 => k_is); (case q4 => k_is))
    (case e24 => refine' Lw.DefF.of ?q1 ?q2 ?q3 ?q4; (case q1 => k_is); (case q2 => k_is); (case q3 => k_is); (case q4 => k_is))
    (case e25 => refine' Lw.DefF.of ?q1 ?q2 ?q3 ?q4; (case q1 => k_is); (case q2 => k_is); (case q3 => k_is); (case q4 => k_is))
    (case e26 => refine' Lw.DefF.of ?q1 ?q2 ?q3 ?q4; (case q1 => k_is); (case q2 => k_is); (case q3 => k_is); (case q4 => k_is))
    (case e27 => refine' Lw.DefF.of ?q1 ?q2 ?q3 ?q4; (case q1 => k_is); (case q2 => k_is); (case q3 => k_is); (case q4 => k_is))
    (case b0 => k_is)
    (case b1 => k_is)
    (case b2 => k_is)
    (case b3 => k_is)
    (case b4 => k_is)
    (case b5 => k_is)
    (case hn => k_is)
    (case ht => k_is)
