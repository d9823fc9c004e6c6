import PyProof.Rows.All
import Wide.All
import OpenK.AllK
import Wide.FinOn
import KE.KExcInit
import KE.KExcIs
import HandS.ForMost
import HandS.Exc
import HandS.ExcInit
import HandS.Defaults
import HandS.IsInst
import HandS.Conv
import HandS.Small
import HandS.SortRule
import HandS.TupLe
import HandS.NamedTupSort
import PyProof.Rows.SortKeyStr
import PyProof.FString5
import HandS.StrMore
import HandS.Walk
import PyProof.Rows.StrLen
import PyProof.StrLawsAffix
import HandS.Set
import HandS.Strs
import HandS.SetBool
import KE.GoesMore
import HandS.TupAny
import HandS.TryMany
import HandS.ExcValue
import HandS.ExcOwn
import HandS.ExcField
import HandS.WordsExc
import HandS.ExcIs
import HandS.Lambda
import KE.KDflt
import HandS.EndOwn
import PySem.Challenge.RW_tornlines_k34_weavings_refused
set_option Elab.async false
set_option linter.all false
set_option maxRecDepth 100000
set_option maxHeartbeats 4000000
/-! Own exception classes over any built-in base: made with positional or keyword arguments, kept as values, their fields read, asked by isinstance. -/
namespace EV
open PySem PySem.W PySem.Calls PyProof.Rows PySem.HandSPX
open Builtin Builtin.ObjectAttr
section
variable {prog : Program} {w : World} {A : Around} {E : Value → Shared → Prop} {R : Result → Shared → Prop}
variable {hp : Heap} {g : Array GenState} {d : Drawn} {t : Nat} {os : OsState}
/-- an exception's first field, whatever its base -/
theorem put_first {K : W.Frag} {nm : Str} {tk : Tok} {v : Value} {x C : Addr} {fv : Array Value} {cd : ClassData}
    (X : K.In hp) (hx : hp.get? x = some { cls := .ref C, data := .fields fv }) (hcd : W.clsIn K C = some cd)
    (pas : refuseLoop (.ref x) "__setattr__" cd.mro = pure ()) (hob : cd.mro.contains (.type "object") = true) (hne : cd.mro.isEmpty = false)
    (hh : cd.hasDict = true) (ha : W.findIn K (.ref C) nm = some none)
    (hq : ∀ h' tk' dx, (∀ b o, b ≠ x → hp.get? b = some o → h'.get? b = some o) → hp.objs.size ≤ dx → dx ≠ x →
      h'.get? x = some { cls := .ref C, dict := some dx, data := .fields fv } → h'.Ns1 dx (fun y => if y = nm then some v else none) →
      R (.ok (.ret .none)) ⟨h', g, d, tk', os⟩) :
    codeAny (model prog w) A (.call (.builtin "object.__setattr__") ⟨[.ref x, .str nm tk, v], []⟩) R ⟨hp, g, d, t, os⟩ := by
  have J : W.InstAt hp x { cls := .ref C, data := .fields fv } C none := ⟨hx, rfl, rfl, trivial⟩
  have hxs : x ≠ hp.objs.size := Nat.ne_of_lt (Heap.lt_size hx)
  have isO : W.Looks (model prog w) hp (isInstance (.ref x) (.type "object")) true :=
    J.type.andThen (W.looks_mroIn X (by unfold W.mroIn; rw [hcd, Option.bind_some, if_neg (by rw [hne]; decide), hob]))
  refine codeAny_call_builtin F.store_object.slot.plain F.store_object.entry
    (@W.check_slot (model prog w) _ _ ⟨hp, g, d, t, os⟩ "object.__setattr__" "object" "__setattr__" (.ref x) [.str nm tk, v] [] _
      F.store_object.kind F.store_object.split isO (F.store_object.args (.ref x) (.str nm tk) v) ?_)
  have order : W.Looks (model prog w) hp (mroOf (.ref C)) cd.mro := (W.looks_clsIn X hcd).andThen .now
  have taker : W.Looks (model prog w) hp (storeTaker? none) none := .now
  have data : W.Looks (model prog w) hp (classData C) cd := W.looks_clsIn X hcd
  rw [W.osa_eq, refuse_eq]
  refine wpAny_bind (wpAny_bind (J.type.at (wpAny_bind (order.at ?_))))
  rw [pas]
  refine wpAny_pure (wpAny_bind (J.type.at (wpAny_bind ((W.looks_findIn X ha).at (wpAny_bind (taker.at ?_))))))
  show wpAny _ _ (storeInOwnDict (.ref x) (.ref C) (.str nm tk) nm v false) _ _ _
  obtain ⟨q1, q2, q3, q4, q5, q6, q7, q8, q9, q10, q11⟩ := cd
  dsimp only at hh
  subst hh
  unfold storeInOwnDict ownDictForStores
  repeat (first
    | with_reducible refine store_in_new ?_ ?_
    | with_reducible refine wpAny_loadPart_at hx ?_
    | with_reducible refine data.at ?_
    | wp_step)
  · exact ⟨_, #[], _, (Heap.get?_update_ne _ _ _ _ hxs.symm).trans (Heap.get?_push_at rfl rfl), rfl, fun e he => absurd he (by simp), fun _ => rfl⟩
  · intro h' tk' nsd same
    have hx1 : (hp.push { cls := .type "dict", data := .dict #[] }).get? x = some { cls := .ref C, data := .fields fv } := Heap.get?_push_of_some _ hx
    refine hq h' tk' hp.objs.size (fun b o nb q => ?_) (Nat.le_refl _) hxs.symm ?_ nsd
    · exact (same.2 b (Nat.ne_of_lt (Heap.lt_size q))).trans
        ((Heap.get?_update_ne _ _ _ _ nb).trans (Heap.get?_push_of_some _ q))
    · exact (same.2 x hxs).trans (Heap.get?_update_self _ hx1 rfl)
/-- a further field -/
theorem put_more {K : W.Frag} {nm : Str} {tk : Tok} {v : Value} {x C dx : Addr} {fv : Array Value} {cd : ClassData} {m0 : Str → Option Value} {nl : List Str}
    (X : K.In hp) (hx : hp.get? x = some { cls := .ref C, dict := some dx, data := .fields fv }) (nsd : hp.Ns1 dx m0) (wi : Within m0 nl) (hz : nl.length ≤ 1000)
    (hcd : W.clsIn K C = some cd) (pas : refuseLoop (.ref x) "__setattr__" cd.mro = pure ()) (hob : cd.mro.contains (.type "object") = true)
    (hne : cd.mro.isEmpty = false) (hh : cd.hasDict = true) (ha : W.findIn K (.ref C) nm = some none)
    (hq : ∀ h' tk', (∀ b o, b ≠ dx → hp.get? b = some o → h'.get? b = some o) → h'.Ns1 dx (fun y => if y = nm then some v else m0 y) →
      R (.ok (.ret .none)) ⟨h', g, d, tk', os⟩) :
    codeAny (model prog w) A (.call (.builtin "object.__setattr__") ⟨[.ref x, .str nm tk, v], []⟩) R ⟨hp, g, d, t, os⟩ := by
  obtain ⟨oD, _, _, hoD, _, _⟩ := nsd.count wi
  have J : W.InstAt hp x { cls := .ref C, dict := some dx, data := .fields fv } C (some oD) := ⟨hx, rfl, rfl, hoD⟩
  have isO : W.Looks (model prog w) hp (isInstance (.ref x) (.type "object")) true :=
    J.type.andThen (W.looks_mroIn X (by unfold W.mroIn; rw [hcd, Option.bind_some, if_neg (by rw [hne]; decide), hob]))
  refine codeAny_call_builtin F.store_object.slot.plain F.store_object.entry
    (@W.check_slot (model prog w) _ _ ⟨hp, g, d, t, os⟩ "object.__setattr__" "object" "__setattr__" (.ref x) [.str nm tk, v] [] _
      F.store_object.kind F.store_object.split isO (F.store_object.args (.ref x) (.str nm tk) v) ?_)
  have order : W.Looks (model prog w) hp (mroOf (.ref C)) cd.mro := (W.looks_clsIn X hcd).andThen .now
  have taker : W.Looks (model prog w) hp (storeTaker? none) none := .now
  have data : W.Looks (model prog w) hp (classData C) cd := W.looks_clsIn X hcd
  rw [W.osa_eq, refuse_eq]
  refine wpAny_bind (wpAny_bind (J.type.at (wpAny_bind (order.at ?_))))
  rw [pas]
  refine wpAny_pure (wpAny_bind (J.type.at (wpAny_bind ((W.looks_findIn X ha).at (wpAny_bind (taker.at ?_))))))
  show wpAny _ _ (storeInOwnDict (.ref x) (.ref C) (.str nm tk) nm v false) _ _ _
  obtain ⟨q1, q2, q3, q4, q5, q6, q7, q8, q9, q10, q11⟩ := cd
  dsimp only at hh
  subst hh
  unfold storeInOwnDict ownDictForStores
  repeat (first
    | with_reducible refine OEX.store_in_old nsd wi hz ?_
    | with_reducible refine wpAny_loadPart_at hx ?_
    | with_reducible refine data.at ?_
    | wp_step)
  intro h' tk' ns' same
  exact hq h' tk' (fun b o nb q => (same.2 b nb).trans q) ns'
end
/-! ### an own exception class called with keywords -/
section
variable {M : Model} {A : Around} {E : Value → Shared → Prop} {h : Heap} {g : Array GenState} {d : Drawn} {t : Nat} {os : OsState}
variable {nm q : Str} {C N : Addr} {bs bm : List Value} {hd : Bool} {sn : List Str} {sub : List Value} {ab : Bool} {col : Option Bool} {dd : Option Addr}
variable {k0 k1 k2 k3 k5 : Option Value} {B newId initId : String}
theorem check_newK (F : ExcBaseFacts B newId initId bm) {rest : List Value} {kw : List (Str × Value)} {Q : Unit → Shared → Prop}
    (hC : h.get? C = some (excClassObj nm q C N bs bm hd sn sub ab col dd k0 k1 k2 k3 k5 newId)) (hq : Q () ⟨h, g, d, t, os⟩) :
    wpAny M A (checkBuiltinCall newId ⟨.ref C :: rest, kw⟩) Q E ⟨h, g, d, t, os⟩ := by
  have hasIt : (Value.ref C :: bm).contains (.type B) = true := by rw [List.contains_cons, F.hasB, Bool.or_true]
  have star := F.noStar
  simp only [checkBuiltinCall, F.newKind, F.newSplit, F.newRow]
  repeat (first
    | refine wpAny_loadPart_at hC ?_
    | (refine wpAny_isSubtype_exc hC ?_; rw [hasIt])
    | refine wpAny_staticBase_exc hC ?_
    | refine wpAny_madeBy_exc hC ?_
    | simp only [bne_self_eq_false, Bool.false_eq_true, if_false]
    | wp_step)
  exact hq
end
section
variable {prog : Program} {w : World} {A : Around} {E : Value → Shared → Prop} {R : Result → Shared → Prop}
variable {h : Heap} {g : Array GenState} {d : Drawn} {t : Nat} {os : OsState}
variable {nm q : Str} {C N : Addr} {bs bm : List Value} {hd : Bool} {sn : List Str} {sub : List Value} {ab : Bool} {col : Option Bool} {dd : Option Addr}
variable {k0 k1 k2 k3 k5 : Option Value} {B newId initId : String}
theorem newK (F : ExcBaseFacts B newId initId bm) {rest : List Value} {kw : List (Str × Value)}
    (hC : h.get? C = some (excClassObj nm q C N bs bm hd sn sub ab col dd k0 k1 k2 k3 k5 newId))
    (hq : R (.ok (.ret (.ref (h.objs.size + 1)))) ⟨(h.push (W.kdv_tup rest)).push (excO C h.objs.size), g, d, t, os⟩) (hrest : rest.length ≤ sizeLine) :
    codeAny (model prog w) A (.builtin newId ⟨.ref C :: rest, kw⟩) R ⟨h, g, d, t, os⟩ := by
  have ends := F.ends
  have b1 : (Value.ref C :: bm).contains (.type B) = true := by rw [List.contains_cons, F.hasB, Bool.or_true]
  have b2 : (Value.ref C :: bm).contains (.type "AttributeError") = false := by rw [List.contains_cons, F.noAttr]; rfl
  have b3 : (Value.ref C :: bm).contains (.type "NameError") = false := by rw [List.contains_cons, F.noName]; rfl
  refine codeAny_builtinAt F.entry ?_
  unfold Builtin.«BaseException.__new__»
  refine PySem.wpAt_bind ?_
  show PySem.wpAt _ _ _ (stack >>= _) _ _ _
  refine PySem.wpAt_bind (PySem.wpAt_stack fun p below => PySem.wpAt_of_wpAny ?_)
  wp_walk
  refine PySem.wpAt_of_wpAny ?_
  rw [F.owner]
  repeat (first
    | with_reducible refine wpAny_madeHere_exc F.canon hC ?_
    | with_reducible refine wpAny_loadPart_at hC ?_
    | (with_reducible refine wpAny_isSubtype_exc hC ?_; first | rw [b1] | rw [b2] | rw [b3])
    | wp_step)
  show R _ _
  rw [Heap.size_push]
  exact hq
theorem typeCallK (F : ExcBaseFacts B newId initId bm) {rest : List Value} {kw : List (Str × Value)} {fI : Addr} {Q : Fin → Shared → Prop}
    (hC : h.get? C = some (excClassObj nm q C N bs bm hd sn sub ab col dd k0 k1 k2 k3 k5 newId))
    (hi : W.Looks (model prog w) h (typeLookup (.ref C) "__init__") (some (.ref fI)))
    (hb : ∀ self, W.Looks (model prog w) h (bindSpecial (.ref fI) self) (.ref fI, [self])) (hrest : rest.length ≤ sizeLine)
    (hq : codeAny (model prog w) A (.call (.ref fI) ⟨.ref (h.objs.size + 1) :: rest, kw⟩)
      (fun r s' => match r with | .ok (.ret v) => v = .none ∧ Q (.done (.ret (.ref (h.objs.size + 1)))) s' | .ok _ => False | .error e => E e s')
      ⟨(h.push (W.kdv_tup rest)).push (excO C h.objs.size), g, d, t, os⟩) :
    wpAny (model prog w) A (Builtin.«type.__call__» ⟨.ref C :: rest, kw⟩) Q E ⟨h, g, d, t, os⟩ := by
  repeat (first
    | with_reducible refine wpAny_loadPart_at hC ?_
    | with_reducible refine wpAny_madeBy_exc hC ?_
    | wp_step)
  refine codeAny_call_builtin_code (Code.quiet_builtin _ F.quiet) (check_newK F hC ?_)
  refine newK F hC ?_ hrest
  show wpAny _ _ _ _ _ _
  have kp : ∀ b o, h.get? b = some o → ((h.push (W.kdv_tup rest)).push (excO C h.objs.size)).get? b = some o :=
    fun b o e => Heap.get?_push_of_some _ (Heap.get?_push_of_some _ e)
  have hC1 := kp _ _ hC
  have new : ((h.push (W.kdv_tup rest)).push (excO C h.objs.size)).get? (h.objs.size + 1) = some (excO C h.objs.size) := by heap_get
  have self : (Value.ref C :: bm).contains (.ref C) = true := by simp
  have i1 := hi.keeps kp
  have b1 := (hb (.ref (h.objs.size + 1))).keeps kp
  unfold isInstance
  repeat (first
    | with_reducible refine wpAny_loadPart_at new ?_
    | (with_reducible refine wpAny_isSubtype_exc hC1 ?_; rw [self])
    | wp_step)
  show wpAny _ _ (typeLookup (.ref C) _) _ _ _
  refine i1.at ?_
  refine wpAny_holding (wpAny_bind (b1.at ?_))
  refine wpAny_bind (wpAny_call (codeAny_mono hq fun r s' z => ?_))
  rcases r with e | (v | _ | _ | _) <;> first | exact z | exact z.elim | skip
  obtain ⟨rfl, z⟩ := z
  first
    | exact wpAny_pure (wpAny_pure z)
    | (wp_walk; exact z)
theorem callK (F : ExcBaseFacts B newId initId bm) {rest : List Value} {kw : List (Str × Value)} {fI : Addr}
    (hC : h.get? C = some (excClassObj nm q C N bs bm hd sn sub ab col dd k0 k1 k2 k3 k5 newId))
    (hi : W.Looks (model prog w) h (typeLookup (.ref C) "__init__") (some (.ref fI)))
    (hb : ∀ self, W.Looks (model prog w) h (bindSpecial (.ref fI) self) (.ref fI, [self])) (hrest : rest.length ≤ sizeLine)
    (hq : codeAny (model prog w) (A.under (.builtin "type.__call__" ⟨.ref C :: rest, kw⟩)) (.call (.ref fI) ⟨.ref (h.objs.size + 1) :: rest, kw⟩)
      (W.InitBack (h.objs.size + 1) R) ⟨(h.push (W.kdv_tup rest)).push (excO C h.objs.size), g, d, t, os⟩) :
    codeAny (model prog w) A (.call (.ref C) ⟨rest, kw⟩) R ⟨h, g, d, t, os⟩ := by
  have f1 := tc_lookup
  have f2 := tc_bind (.ref C)
  have ty : (⟨h, g, d, t, os⟩ : Shared).TypeIs (.ref C) "type" := ⟨_, hC, rfl⟩
  refine codeAny_of_tree ?_
  show wpAny _ _ (callAny (.ref C) _) _ _ _
  repeat (any_goals (first
    | assumption
    | with_reducible refine wpAny_loadPart_at hC ?_
    | wp_step))
  refine ⟨rfl, ?_⟩
  refine codeAny_call_builtin_at (Code.quiet_builtin _ (by decide +kernel)) entry_typeCall ?_
  refine wpAny_check_type_call_sub hC ?_
  refine typeCallK F hC hi hb hrest (codeAny_mono hq fun r s' z => ?_)
  rcases r with e | (v | _ | _ | _) <;> exact z
end
end EV

set_option Elab.async false
set_option linter.all false
set_option maxRecDepth 100000
set_option maxHeartbeats 4000000
namespace L2
namespace EV
open PySem PySem.Spec PyProof.Rows _root_.EV
/-- what the written part says of an own exception class at C, straight under the built-in base B -/
structure OxC (K : PySem.W.Frag) (C : Addr) (B newId initId : String) (bm : List Value) : Prop where
  F : ExcBaseFacts B newId initId bm
  cls : ∃ nm q N bs sn sub ab col dd k0 k1 k2 k3 k5, K.lookup C = some (excClassObj nm q C N bs bm true sn sub ab col dd k0 k1 k2 k3 k5 newId)
  pas : ∀ self, refuseLoop self "__setattr__" bm = pure ()
  obj : bm.contains (.type "object") = true
  sa : PySem.W.findIn K (.ref C) "__setattr__" = some (some (.builtin "object.__setattr__"))
  ga : PySem.W.findIn K (.ref C) "__getattribute__" = some (some (.builtin "BaseException.__getattribute__"))
  gg : PySem.W.findIn K (.ref C) "__getattr__" = some none
  exC : PySem.W.subIn K (.ref C) (.type "BaseException") = some true
  kC : PySem.W.keepIn K (.ref C) = true
  hd : PySem.W.hasDictIn K C = true
  ca : PySem.W.findIn K (.ref C) "__class__" = some (some (.builtin "object.__class__"))
  cn : PySem.W.specialIn K (.builtin "object.__class__") "__get__" = some (some (.builtin "getset_descriptor.__get__"))
  ct : PySem.W.takesIn K (.builtin "object.__class__") = some true
  om : PySem.W.mroIn K C (.type "object") = some true
section
variable {X : Cx} {pins : List (Addr × Obj)} {σ : St} {H : Hp} {s : Shared} {a C dx : Addr} {f : Str} {y : V} {u : Value} {fs : List (Str × V)}
variable {Q : Unit → Shared → Prop} {E : Value → Shared → Prop} {A : Around} {B newId initId : String} {bm : List Value}
theorem OxC.data {K : PySem.W.Frag} (T : OxC K C B newId initId bm) : ∃ cd, PySem.W.clsIn K C = some cd ∧ cd.mro = .ref C :: bm ∧ cd.hasDict = true := by
  obtain ⟨nm, q, N, bs, sn, sub, ab, col, dd, k0, k1, k2, k3, k5, hC⟩ := T.cls
  refine ⟨{ name := nm, bases := bs, mro := .ref C :: bm, ns := N, qualname := q, hasDict := true, slotNames := sn, subclasses := sub, abstract := ab, collection := col, hasDel := false }, ?_, rfl, rfl⟩
  unfold PySem.W.clsIn
  rw [hC] <;> rfl
theorem OxC.look {K : PySem.W.Frag} (T : OxC K C B newId initId bm) {cd : ClassData} (e : cd.mro = .ref C :: bm) (self : Value) :
    refuseLoop self "__setattr__" cd.mro = pure () ∧ cd.mro.contains (.type "object") = true ∧ cd.mro.isEmpty = false := by
  rw [e, refuseLoop_ref]
  refine ⟨T.pas self, ?_, rfl⟩
  rw [List.contains_cons, T.obj, Bool.or_true]
/-- self.f = y, the first field -/
theorem ox_first (T : OxC X.K C B newId initId bm) (I : Inv X pins σ H s) (e : H a = some (exo a C none)) (no : PySem.W.findIn X.K (.ref C) f = some none) (ry : RelV y u)
    (h : ∀ dx s', H dx = none → dx ≠ a → Inv X pins σ (upd (upd H dx (exd dx [(f, y)])) a (exo a C (some dx))) s' → Q () s') :
    wpAny (model X.prog X.w) A (setAttr (.ref a) f u) Q E s := by
  obtain ⟨cd, hcl, hmr, hdi⟩ := T.data
  obtain ⟨l1, l2, l3⟩ := T.look hmr (.ref a)
  obtain ⟨t1, ho⟩ := exo_at I.hok e
  obtain ⟨hp, g, d, t, os⟩ := s
  refine PySem.W.set_plain I.kIn (ox := { cls := .ref C, dict := none, data := .fields #[.ref t1, .none, .none, .none, .bool false, .none] })
    (od := none) ⟨ho, rfl, rfl, trivial⟩ T.sa ?_
  refine put_first I.kIn ho hcl l1 l2 l3 hdi no fun h' tk' dx k big ne hx hn => ?_
  have free : H dx = none := I.hok.fresh big
  have old : ∀ {b : Addr} {o : Obj}, hp.get? b = some o → b ≠ dx := fun {b o} q => Nat.ne_of_lt (Nat.lt_of_lt_of_le (Heap.lt_size q) big)
  have nota : ∀ {b : Addr}, H b = none → b ≠ a := fun {b} n z => by
    subst z
    rw [e] at n
    cases n
  have un : Un X.fs [] H (upd (upd H dx (exd dx [(f, y)])) a (exo a C (some dx))) hp h' := by
    refine ⟨fun b o q n _ _ => k b o (nota n) q, fun b o q n _ _ => ⟨o.slots, k b o (nota n) q⟩, fun b o q n _ => ?_, fun b o q _ => ?_, fun b xs q => ?_, fun b o v q => ?_, fun b ps q => ⟨#[], ?_⟩⟩
    · rw [upd_ne (nota n), upd_ne (old q)]
      exact n
    · by_cases hb : b = a
      · subst hb
        exact ⟨_, hx⟩
      · exact ⟨o, k b o hb q⟩
    · rw [upd_ne (at_ne e q exo_tup), upd_ne (ne_of_none q free)]
      exact q
    · rw [upd_ne (at_ne e q exo_frz), upd_ne (ne_of_none q free)]
      exact q
    · rw [upd_ne (at_ne e q exo_tbl), upd_ne (ne_of_none q free), q]
      simp
  refine h dx _ free ne (I.un (t' := tk') un fun b o q => ?_)
  by_cases hb : b = a
  · subst hb
    rw [upd_same] at q
    cases q
    exact exo_ok hx
  · rw [upd_ne hb] at q
    by_cases hd : b = dx
    · subst hd
      rw [upd_same] at q
      cases q
      exact exd_ok hn (relO_put (fs := []) ry fun g => True.intro)
    · rw [upd_ne hd] at q
      refine (I.hok b o q).stay (fun c v hc z => k c v ?_ z) (fun c hc => ?_) fun c xs hc => ?_
      · rcases hc with hc | hc
        · subst hc
          exact hb
        · exact at_ne e hc exo_own
      · rw [upd_ne (at_ne e hc exo_own), upd_ne (ne_of_none hc free)]
        exact hc
      · rw [upd_ne (at_ne e hc exo_tup), upd_ne (ne_of_none hc free)]
        exact hc
/-- self.f = y, a further field -/
theorem ox_more (T : OxC X.K C B newId initId bm) (I : Inv X pins σ H s) (e : H a = some (exo a C (some dx))) (ed : H dx = some (exd dx fs)) (hl : fs.length ≤ 900)
    (no : PySem.W.findIn X.K (.ref C) f = some none) (ry : RelV y u) (h : ∀ s', Inv X pins σ (upd H dx (exd dx ((f, y) :: fs))) s' → Q () s') :
    wpAny (model X.prog X.w) A (setAttr (.ref a) f u) Q E s := by
  obtain ⟨cd, hcl, hmr, hdi⟩ := T.data
  obtain ⟨l1, l2, l3⟩ := T.look hmr (.ref a)
  obtain ⟨t1, ho⟩ := exo_at I.hok e
  obtain ⟨mA, hns, rel⟩ := exd_at I.hok ed
  have hw := within_of rel
  obtain ⟨hp, g, d, t, os⟩ := s
  obtain ⟨oD, _, _, hoD, _, _⟩ := hns.count hw
  refine PySem.W.set_plain I.kIn (ox := { cls := .ref C, dict := some dx, data := .fields #[.ref t1, .none, .none, .none, .bool false, .none] })
    (od := some oD) ⟨ho, rfl, rfl, hoD⟩ T.sa ?_
  refine put_more I.kIn ho hns hw (by rw [List.length_map]; omega) hcl l1 l2 l3 hdi no fun h' tk' k hn => ?_
  have there : ∃ o, h'.get? dx = some o := by
    obtain ⟨o, _, _, e', _⟩ := hn
    exact ⟨o, e'⟩
  refine h _ (I.write (t' := tk') (x := dx) (e := dx) (o := exd dx ((f, y) :: fs)) ?_ (.inl rfl) k there (exd_ok hn (relO_put ry rel)))
  rw [ed]
  exact True.intro
/-- B.__init__(self, ..) of an exception without fields: nothing of it is told -/
theorem ox_init {us : List Value} {Q : Value → Shared → Prop} (T : OxC X.K C B newId initId bm) (I : Inv X pins σ H s) (e : H a = some (exo a C none)) (hl : us.length ≤ sizeLine)
    (h : ∀ s', Inv X pins σ H s' → Q .none s') : wpAny (model X.prog X.w) A (call (.builtin initId) (.ref a :: us)) Q E s := by
  obtain ⟨nm, q, N, bs, sn, sub, ab, col, dd, k0, k1, k2, k3, k5, hC⟩ := T.cls
  obtain ⟨t1, ho⟩ := exo_at I.hok e
  obtain ⟨hp, g, d, t, os⟩ := s
  refine wpAny_call (PySem.HandSPX.init_base T.F (fun _ => rfl) (I.kIn _ _ hC) ho hl fun h' t2 k hx => ?_)
  have J := I.write (t' := t) (x := a) (e := a) (o := exo a C none) (by rw [e]; exact True.intro) (.inl rfl) k ⟨_, hx⟩ (exo_ok hx)
  have eu : upd H a (exo a C none) = H := by
    funext b
    by_cases hb : b = a
    · subst hb
      rw [upd_same, e]
    · rw [upd_ne hb]
  rw [eu] at J
  exact h _ J
end
/-! ### the readings -/
def tBin (K : PySem.W.Frag) (B newId initId : String) (bm : List Value) (ta : TA) : TE := fun σ H Q => ta σ H fun vs H1 =>
  ∃ (a C : Addr) (ws : List V), vs = .ref a :: ws ∧ ws.length ≤ 1000 ∧ OxC K C B newId initId bm ∧ H1 a = some (exo a C none) ∧ Q .non H1
def tPut (K : PySem.W.Frag) (B newId initId : String) (bm : List Value) (f : Str) (to te : TE) : TS := fun D σ H => te σ H fun y H1 => to σ H1 fun x H2 =>
  ∃ a C : Addr, x = .ref a ∧ OxC K C B newId initId bm ∧ PySem.W.findIn K (.ref C) f = some none ∧
    ((H2 a = some (exo a C none) ∧ ∀ dx, H2 dx = none → dx ≠ a → D.nx σ (upd (upd H2 dx (exd dx [(f, y)])) a (exo a C (some dx)))) ∨
      ∃ (dx : Addr) (fs : List (Str × V)), H2 a = some (exo a C (some dx)) ∧ H2 dx = some (exd dx fs) ∧ fs.length ≤ 900 ∧ D.nx σ (upd H2 dx (exd dx ((f, y) :: fs))))
/-- C(..) as a value: gV puts the exception itself, the values by position and those by name in the parameters' order -/
def tNew (C : Addr) (n m : Nat) (sp : Sp) (gV : List V → List V → List V) (t tk : TA) : TE := fun σ H Q => t σ H fun vs H1 => tk σ H1 fun zs H2 =>
  vs.length = n ∧ zs.length = m ∧ vs.length ≤ 1000 ∧ ∀ a, H2 a = none → sp (gV (.ref a :: vs) zs) (upd H2 a (exo a C none)) (fun v H3 => v = .non ∧ Q (.ref a) H3) (fun _ _ _ => False)
/-- e.f, e such an exception -/
def tFld (K : PySem.W.Frag) (f : Str) (te : TE) : TE := fun σ H Q => te σ H fun x H1 =>
  ∃ (a C dx : Addr) (B newId initId : String) (bm : List Value) (fs : List (Str × V)) (v : V), x = .ref a ∧ OxC K C B newId initId bm ∧ PySem.W.findIn K (.ref C) f = some none ∧
    H1 a = some (exo a C (some dx)) ∧ H1 dx = some (exd dx fs) ∧ fs.lookup f = some v ∧ Q v H1
/-- isinstance(e, c) -/
def rIsX (K : PySem.W.Frag) : List V → Hp → VK → Prop := fun xs H Q => ∃ (a C : Addr) (od : Option Addr) (fs : List (Str × V)) (B newId initId : String) (bm : List Value) (c : V) (u : Value) (b : Bool),
  xs = [.ref a, c] ∧ ClsV c u ∧ OxC K C B newId initId bm ∧ H a = some (exo a C od) ∧ (∀ dx, od = some dx → H dx = some (exd dx fs)) ∧ PySem.W.kitOne K (.ref C) u = some b ∧ Q (.bl b) H
section
variable {X : Cx} {o e : Expr} {es : List Expr} {to te : TE} {ta : TA} {f : Str} {p p' p1 p2 pos : Pos} {B newId initId : String} {bm : List Value}
theorem pe_bin {nB : Str} {pl : Sem Bool} (hg : Gl X nB) (hm : X.mg nB = none) (hv : bootBuiltins nB = some (.type B)) (ty : typeOf (.type B) = pure (.type "type"))
    (vV : PySem.W.findCls X.K (.type B) (.type "type") "__init__" = some (.val (.builtin initId))) (q4 : Manifest.isStub B = false) (ha : PA X (e :: es) ta) (q3 : PySem.W.handedIn (.builtin initId) = true)
    (hn1 : nB ≠ "__name__" := by decide) (hn2 : (nB == ("__debug__" : Str)) = false := by decide)
    (hc : eval (.Call (.Attribute (.Name nB p1) "__init__" p2) (e :: es) [] pos) X.env = (do
      let ov ← eval (.Name nB p1) X.env
      standAt p2.atName
      let (f, first) ← holding [ov] (getMethod ov "__init__" pl)
      callWith pos f first (backTo pos (starEach (e :: es) X.env)) (backToKw pos (keywordEach [] X.env))) := by rfl)
    (he : starEach (e :: es) X.env = (false, eval e X.env) :: starEach es X.env := by rfl) (hpl : (backTo pos (starEach es X.env)).any (·.1) = false := by rfl) :
    PE X (.Call (.Attribute (.Name nB p1) "__init__" p2) (e :: es) [] pos) (tBin X.K B newId initId bm ta) := by
  refine ⟨fun pins s σ H Q I h => ?_⟩
  refine PySem.W.methodCall_KW (ld_blt I hg hm hv ?_ hn1 hn2) hc
  obtain ⟨m, fr⟩ := I.fr
  refine PySem.W.method_type fr I.ok.mod.kin ty q4 vV q3 ?_
  show wpAny _ _ (callWith pos (Value.builtin initId) [] (backTo pos (starEach (e :: es) X.env)) []) _ _ _
  refine PyProof.Rows.callWith_method1 (thn (ha.run pos pins _ σ H _ (I.tok _) h) fun us s1 ⟨vs, H1, I1, r1, a, C, ws, ev, hl, T, ea, q⟩ => ?_) he hpl
  subst ev
  cases r1 with
  | @cons _ u0 _ ur ra rr =>
    obtain rfl : u0 = Value.ref a := ra
    have len : ur.length ≤ sizeLine := by
      have e1 := Paired.length rr
      rw [← e1, sizeLine_eq]
      omega
    exact ox_init T I1 ea len fun s' J => ⟨.non, H1, J, rfl, q⟩
/-- self.f = e -/
theorem ps_put (ho : PE X o to) (he : PE X e te) (hs : swapsWith e (some (.Attribute o f p')) pos.line X.env = pure false := by rfl) :
    PS X (.Assign [.Attribute o f p'] e pos) (tPut X.K B newId initId bm f to te) := by
  refine ⟨fun pins s σ H D I h => ?_⟩
  refine plainObj_wpAny_Assign_Attribute (thn (he.run pins s σ H _ I h) fun v s1 ⟨y, H1, I1, r1, q1⟩ => ?_) hs
  refine thn (ho.run pins s1 σ H1 _ I1 q1) fun u s2 ⟨x, H2, I2, r2, a, C, ex, T, no, q⟩ => ?_
  subst ex
  obtain rfl : u = Value.ref a := r2
  rcases q with ⟨ea, q⟩ | ⟨dx, fs, ea, ed, hl, q⟩
  · exact ox_first T I2 ea no r1 fun dx s' n ne J => ⟨σ, _, J, q dx n ne⟩
  · exact ox_more T I2 ea ed hl no r1 fun s' J => ⟨σ, _, J, q⟩
/-- e.f -/
theorem pe_xfld (he : PE X e te) (hb : attributeBase e f X.env (eval e X.env) = eval e X.env := by rfl) : PE X (.Attribute e f pos) (tFld X.K f te) := by
  refine ⟨fun pins s σ H Q I h => ?_⟩
  refine attr_of hb (thn (he.run pins s σ H _ I h) fun u s1 ⟨x, H1, I1, rx, a, C, dx, B, newId, initId, bm, fs, v, ex, T, no, ea, ed, l, q⟩ => ?_)
  subst ex
  obtain rfl : u = Value.ref a := rx
  obtain ⟨t1, ho⟩ := exo_at I1.hok ea
  obtain ⟨mA, hns, hr⟩ := exd_at I1.hok ed
  obtain ⟨od, hod, hl⟩ := lookIn_ns hns
  obtain ⟨u, hu, ru⟩ := RelO.some_of (v := v) (o := mA f) (by rw [← l]; exact hr f)
  have J : PySem.W.InstAt s1.heap a { cls := .ref C, dict := some dx, data := .fields #[.ref t1, .none, .none, .none, .bool false, .none] } C (some od) := ⟨ho, rfl, rfl, hod⟩
  exact HandSPX.exc_get I1.kIn J T.ga T.gg T.exC (PySem.W.findObj_own T.hd no rfl (by rw [hl, hu])) (handed_of ru) ⟨v, H1, I1.tok _, ru, q⟩
theorem call_isX : CallR X (.builtin "isinstance") (rIsX X.K) := by
  intro pins s σ H xs us Q I r h
  obtain ⟨a, C, od, fs, B, newId, initId, bm, c, u, b, rfl, k, T, ea, ed, e, q⟩ := h
  obtain ⟨u1, u2, rfl, r1, r2⟩ := vals2 r
  have e2 := k.eq r2
  subst e2
  obtain rfl : u1 = Value.ref a := r1
  obtain ⟨t1, ho⟩ := exo_at I.hok ea
  obtain ⟨cd, hcl, _⟩ := T.data
  have some_ : (PySem.W.clsIn X.K C).isSome = true := by rw [hcl]; rfl
  have fin : ∀ tk, EP X pins σ Q (.bool b) { s with toks := tk } := fun tk => ⟨.bl b, H, I.tok tk, rfl, q⟩
  cases od with
  | none =>
    have J : PySem.W.InstAt s.heap a { cls := .ref C, dict := none, data := .fields #[.ref t1, .none, .none, .none, .bool false, .none] } C none := ⟨ho, rfl, rfl, trivial⟩
    exact PySem.W.kia_one (PySem.W.kitx_exc some_ T.ga T.gg T.exC T.ca T.cn T.ct T.om) I.kIn J e (fun z => nomatch z) fin
  | some dx =>
    obtain ⟨mA, hns, hr⟩ := exd_at I.hok (ed dx rfl)
    obtain ⟨o', hod, hl⟩ := lookIn_ns hns
    have J : PySem.W.InstAt s.heap a { cls := .ref C, dict := some dx, data := .fields #[.ref t1, .none, .none, .none, .bool false, .none] } C (some o') := ⟨ho, rfl, rfl, hod⟩
    exact PySem.W.kia_one (PySem.W.kitx_exc some_ T.ga T.gg T.exC T.ca T.cn T.ct T.om) I.kIn J e (fun z => nomatch z) fin
end
/-! ### making one, kept as a value -/
section
variable {X : Cx} {CX : CXT} {k n : Nat} {fI C : Addr} {fd : FuncData} {ps ks : List Str} {sp : Sp} {x : Str} {p pos : Pos} {e : Expr} {es : List Expr} {kws : List Keyword}
variable {t tk : TA} {g : List Value → List Value → List Value} {gV : List V → List V → List V} {B newId initId : String} {bm : List Value}
theorem run_new {pins : List (Addr × Obj)} {σ : St} {H : Hp} {s : Shared} {Q : VK} {us ws : List Value} {vs zs : List V} (T : OxC X.K C B newId initId bm)
    (iC : PySem.W.findIn X.K (.ref C) "__init__" = some (some (.ref fI))) (tI : PySem.W.typeIn X.K (.ref fI) = some (.type "function"))
    (F : FnOk X.prog X.w X.K X.mg X.base CX k fI fd ps sp) (hr : Room (k + 1) X.A) (hb : KBn X.K fd ps (n + 1) ks g gV) (hx : Passes CX X (fun _ _ _ => False))
    (I : Inv X pins σ H s) (r : Vals vs us) (rz : Vals zs ws) (l1 : vs.length = n) (l2 : zs.length = ks.length) (l3 : vs.length ≤ 1000)
    (h : ∀ a, H a = none → sp (gV (.ref a :: vs) zs) (upd H a (exo a C none)) (fun v H3 => v = .non ∧ Q (.ref a) H3) (fun _ _ _ => False)) :
    wpAny (model X.prog X.w) X.A (call (.ref C) us (ks.zip ws)) (EP X pins σ Q) X.xe s := by
  obtain ⟨nm, q, N, bs, sn, sub, ab, col, dd, k0, k1, k2, k3, k5, hC⟩ := T.cls
  obtain ⟨hp, g1, dr, tk, os⟩ := s
  have big : hp.objs.size ≤ hp.objs.size + 1 := Nat.le_succ _
  have free : H (hp.objs.size + 1) = none := I.hok.fresh big
  have hq := h (hp.objs.size + 1) free
  have kp : ∀ b o, hp.get? b = some o → ((hp.push (PySem.W.kdv_tup us)).push (PySem.HandSPX.excO C hp.objs.size)).get? b = some o := fun b o e =>
    Heap.get?_push_of_some _ (Heap.get?_push_of_some _ e)
  have new : ((hp.push (PySem.W.kdv_tup us)).push (PySem.HandSPX.excO C hp.objs.size)).get? (hp.objs.size + 1) = some (PySem.HandSPX.excO C hp.objs.size) := by heap_get
  have I2 : Inv X pins σ (upd H (hp.objs.size + 1) (exo (hp.objs.size + 1) C none))
      ⟨(hp.push (PySem.W.kdv_tup us)).push (PySem.HandSPX.excO C hp.objs.size), g1, dr, tk, os⟩ :=
    I.laid (t' := tk) (a := hp.objs.size + 1) (o := exo (hp.objs.size + 1) C none) (h' := (hp.push (PySem.W.kdv_tup us)).push (PySem.HandSPX.excO C hp.objs.size)) kp big (exo_ok new)
  have ra : Vals (V.ref (hp.objs.size + 1) :: vs) (Value.ref (hp.objs.size + 1) :: us) := .cons rfl r
  have lu : us.length ≤ sizeLine := by
    have e1 := Paired.length r
    rw [← e1, sizeLine_eq]
    omega
  have n1 : (Value.ref (hp.objs.size + 1) :: us).length = n + 1 := by
    rw [List.length_cons, ← r.length, l1]
  refine wpAny_call (EV.callK T.F (I.kIn _ _ hC) (PySem.W.looks_findIn I.kIn iC) (fun self => PySem.W.bind_fn I.kIn self tI) lu
    (codeAny_mono (F.run _ X.stack _ _ ⟨Value.ref (hp.objs.size + 1) :: us, ks.zip ws⟩ (g (Value.ref (hp.objs.size + 1) :: us) ws) _ _ (fun _ _ _ => False)
      (hr.make C us (ks.zip ws)) (I2.env0.make C us (ks.zip ws)) (hb.to _ _ ws I2.kIn n1 (rz.length.symm.trans l2)) (hb.rel ra rz) hq) fun r s' hq' => ?_))
  cases r with
  | error er => exact hx pins σ _ _ er s' I2 hq'
  | ok fl =>
    cases fl with
    | ret u =>
      obtain ⟨v, H3, I3, rv, ev, q3⟩ := I2.after hq'
      subst ev
      exact ⟨rv, ⟨V.ref (hp.objs.size + 1), H3, I3, rfl, q3⟩⟩
    | next => exact False.elim hq'
    | brk => exact False.elim hq'
    | cont => exact False.elim hq'
/-- C(e, ..) -/
theorem pe_new (T : OxC X.K C B newId initId bm) (iC : PySem.W.findIn X.K (.ref C) "__init__" = some (some (.ref fI))) (tI : PySem.W.typeIn X.K (.ref fI) = some (.type "function"))
    (F : FnOk X.prog X.w X.K X.mg X.base CX k fI fd ps sp) (hr : Room (k + 1) X.A) (hb : KBn X.K fd ps (n + 1) [] g gV) (hx : Passes CX X (fun _ _ _ => False))
    (hg : Gl X x) (hm : X.mg x = some (.ref C)) (ha : PA X (e :: es) t) (hdb : (x == ("__debug__" : Str)) = false := by decide)
    (he : starEach (e :: es) X.env = (false, eval e X.env) :: starEach es X.env := by rfl) (hpl : (backTo pos (starEach es X.env)).any (·.1) = false := by rfl) :
    PE X (.Call (.Name x p) (e :: es) [] pos) (tNew C n 0 sp gV t tNil) := by
  refine ⟨fun pins s σ H Q I h => ?_⟩
  refine wpAny_Call_Name_kw (ld_glob I hg hm ?_ hdb)
  refine PySem.W.callWith_K (h₀ := X.base) I.ok.mod.kin T.kC (thn (ha.run pos pins s σ H _ I h) fun us s1 ⟨vs, H1, I1, r1, q1⟩ => ⟨I1.kIn, ?_⟩) he hpl
  obtain ⟨l1, _, l3, q2⟩ := q1
  exact run_new (ws := []) (zs := []) T iC tI F hr hb hx I1 r1 .nil l1 rfl l3 q2
/-- C(k = v, ..) -/
theorem pe_newK (T : OxC X.K C B newId initId bm) (iC : PySem.W.findIn X.K (.ref C) "__init__" = some (some (.ref fI))) (tI : PySem.W.typeIn X.K (.ref fI) = some (.type "function"))
    (F : FnOk X.prog X.w X.K X.mg X.base CX k fI fd ps sp) (hr : Room (k + 1) X.A) (hb : KBn X.K fd ps 1 ks g gV) (hx : Passes CX X (fun _ _ _ => False))
    (hg : Gl X x) (hm : X.mg x = some (.ref C)) (hkw : PK X kws tk) (hall : (backToKw pos (keywordEach kws X.env)).all (·.1.isSome) = true := by rfl)
    (hks : (backToKw pos (keywordEach kws X.env)).filterMap (·.1) = ks := by rfl) (hdb : (x == ("__debug__" : Str)) = false := by decide)
    (hpl : ((backTo pos (starEach [] X.env)).any (·.1) || (backToKw pos (keywordEach kws X.env)).any (·.1.isNone)) = false := by rfl) :
    PE X (.Call (.Name x p) [] kws pos) (tNew C 0 ks.length sp gV tNil tk) := by
  refine ⟨fun pins s σ H Q I h => ?_⟩
  refine wpAny_Call_Name_kw (ld_glob I hg hm ?_ hdb)
  refine PySem.W.callWith_KW0 (h₀ := X.base) I.ok.mod.kin T.kC hall ?_ hpl
  refine thn (hkw.run pos pins s σ H _ I h) fun ws s2 ⟨zs, H2, I2, rz, l1, l2, l3, q2⟩ => ⟨I2.kIn, ?_⟩
  rw [hks]
  exact run_new (us := []) (vs := []) T iC tI F hr hb hx I2 .nil rz rfl l2 (by decide) q2
end
end EV
end L2

set_option Elab.async false
set_option linter.all false
set_option maxRecDepth 100000
set_option maxHeartbeats 4000000
/-! Defs that show values by repr: a promise that is kept where no repr runs yet. -/
namespace L2
namespace EV
open PySem PySem.Spec PyProof.Rows _root_.EV
/-- FnOk, where no repr runs yet -/
structure FnG (P : Program) (w : World) (K : PySem.W.Frag) (mg : Str → Option Value) (base : Heap) (CX : CXT) (k : Nat) (f : Addr) (fd : FuncData) (ps : List Str) (sp : Sp) : Prop where
  len : ∀ vs H Q E, sp vs H Q E → vs.length = ps.length
  run : ∀ (A : Around) (outer : List Env) (s : Shared) (H : Hp) (args : Args) (us : List Value) (vs : List V) (Q : VK) (E : XK), Room k A → A.guards = some [] →
    Env0 P w K mg base A outer s H → BindsTo s fd args (ps.zip us) → Vals vs us → sp vs H Q E → codeAny (model P w) A (.call (.ref f) args) (CR CX outer P w H s Q E) s
section
variable {P : Program} {w : World} {K : PySem.W.Frag} {mg : Str → Option Value} {base : Heap}
theorem okG {x qual : Str} {st : Stmt} {f : Addr} {fd : FuncData} {N ps : List Str} {k : Nat} {sp : Sp} (F : Fun K x qual st f fd) (S : FnScope N ps (defScope st))
    (len : ∀ vs H Q E, sp vs H Q E → vs.length = ps.length)
    (hbody : ∀ (cdv : Value) (A : Around) (outer : List Env) (s : Shared) (H : Hp) (vs : List V) (Q : VK) (E : XK), Room k (A.deeper (envOfC qual (defScope st) s.heap.objs.size f cdv)) →
      A.guards = some [] → sp vs H Q E →
      ∃ t, PSs (cxOf CX0 P w K mg base N qual (defScope st) f cdv A outer s H E).nox (defBody st) t ∧ t { nx := fun _ H' => Q .non H', rt := Q } (start N vs) H) :
    FnG P w K mg base CX0 (k + 1) f fd ps sp := by
  obtain ⟨oc, od, kV, doc, pm, an, cdv, ct, osl, rfl, lk, hcd⟩ := F.ex
  refine ⟨len, fun A outer s H args us vs Q E hr hgd e0 hb r hsp => ?_⟩
  have hl := len _ _ _ _ hsp
  have keptB : ∀ b o, base.get? b = some o → s.heap.get? b = some o := fun b o e => (e0.bs b o e).1
  have KX : K.In s.heap := e0.mod.kin.keeps keptB
  have lim : s.heap.NoLimit := e0.mod.nolimit.keeps keptB
  have kinds : ∀ y ∈ ps.zip us, (defScope st).names.lookup y.1 = some .local ∨
      ((defScope st).names.lookup y.1 = some .cell ∧ ((cellsFrom (s.heap.objs.size + 1) (defScope st).names []).lookup y.1).isSome = true) := fun ⟨n, v⟩ hy =>
    (S.par n (List.of_mem_zip hy).1).elim .inl fun q => .inr ⟨q, PySem.W.cellsFrom_some _ _ _ (.inl q)⟩
  refine codeAny_call_function hr.depth (KX _ _ lk) rfl S.co S.gen rfl (PySem.W.codeRec_of KX hcd) (hb _ _ _ _ ?_)
  refine wpAny_newFunctionEnv_cells S.kind kinds fun env he s1 x => ?_
  subst he
  refine ⟨lim.keeps x.toInCall.keep, codeAny_func ?_⟩
  obtain ⟨t, ht0, hq⟩ := hbody cdv A outer s H vs Q E (hr.deeper _) hgd hsp
  have ht := ht0.nox
  have I : Inv (cxOf CX0 P w K mg base N qual (defScope st) f cdv A outer s H E) [] (start N vs) H s1 := inv_start S hr.hd e0 hl r x
  refine wpAny_mono (ht.run [] s1 (start N vs) H _ I hq) (fun fl s' hs => ?_) fun e s' hs => hs
  cases fl with
  | ret u =>
    obtain ⟨v, σ', H', J, rv, q⟩ := hs
    exact ⟨v, H', J.os, J.bare, J.base, J.hok, rv, q⟩
  | next =>
    obtain ⟨σ', H', J, q⟩ := hs
    exact ⟨V.non, H', J.os, J.bare, J.base, J.hok, rfl, q⟩
  | brk =>
    obtain ⟨_, _, _, q⟩ := hs
    exact False.elim q
  | cont =>
    obtain ⟨_, _, _, q⟩ := hs
    exact False.elim q
end
section
variable {X : Cx} {CX : CXT} {k : Nat} {f : Addr} {fd : FuncData} {ps : List Str} {sp : Sp} {x : Str} {p pos : Pos} {e : Expr} {es : List Expr} {t : TA} {E : XK}
/-- f(e, ..) of such a def -/
theorem pe_callG (F : FnG X.prog X.w X.K X.mg X.base CX k f fd ps sp) (hr : Room k X.A) (hgd : X.A.guards = some []) (hg : Gl X x) (hm : X.mg x = some (.ref f))
    (hk : PySem.W.keepIn X.K (.ref f) = true) (hb : Binds X.K fd ps []) (hx : Passes CX X E) (ha : PA X (e :: es) t) (hdb : (x == ("__debug__" : Str)) = false := by decide)
    (he : starEach (e :: es) X.env = (false, eval e X.env) :: starEach es X.env := by rfl) (hpl : (backTo pos (starEach es X.env)).any (·.1) = false := by rfl) :
    PE X (.Call (.Name x p) (e :: es) [] pos) (fun σ H Q => t σ H fun vs H1 => sp vs H1 Q E) := by
  refine ⟨fun pins s σ H Q I h => ?_⟩
  refine wpAny_Call_Name_kw (ld_glob I hg hm ?_ hdb)
  refine PySem.W.callWith_K (h₀ := X.base) I.ok.mod.kin hk (thn (ha.run pos pins s σ H _ I h) fun us s1 ⟨vs, H1, I1, r, q⟩ => ⟨I1.kIn, ?_⟩) he hpl
  have hl : us.length = ps.length := by
    rw [← r.length]
    exact F.len _ _ _ _ q
  have bn := hb s1 us I1.kIn (by rw [List.append_nil]; exact hl)
  rw [List.append_nil] at bn
  refine wpAny_call (codeAny_mono (F.run X.A X.stack s1 H1 ⟨us, []⟩ us vs Q E hr hgd I1.env0 bn r q) fun r2 s2 hq => ?_)
  cases r2 with
  | error er => exact hx pins σ H1 s1 er s2 I1 hq
  | ok fl =>
    cases fl with
    | ret u => exact I1.after hq
    | next => exact False.elim hq
    | brk => exact False.elim hq
    | cont => exact False.elim hq
end
/-- the law's own call, of a promise that is kept where no repr runs -/
theorem law_callG {P : Program} {w : World} {K : PySem.W.Frag} {mg mb : Str → Option Value} {k : Nat} {fa a : Addr} {fd : FuncData} {x : Str} {sp : Sp} {s1 : Shared} {vs : List Value} {ns : List Int}
    (KX : K.In s1.heap) (hns : s1.heap.Ns mainGlobals mg) (hb : s1.heap.Ns builtinsNs mb) (hbb : ∀ x : Str, x ≠ "__name__" → mb x = bootBuiltins x) (hlim : s1.heap.NoLimit) (hg : s1.gens = #[])
    (ha : s1.heap.get? a = some { cls := .type "list", data := .seq vs.toArray }) (hi : IntsAre vs ns) (hl : ns.length ≤ sizeLine) (hr : Room k callerA)
    (F : ∀ base : Heap, K.In base → base.Ns mainGlobals mg → FnG P w K mg base CX0 k fa fd [x] sp) (hbind : ∀ (s : Shared) (u : Value), BindsTo s fd ⟨[u], []⟩ [(x, u)])
    (hsp : ∀ H : Hp, Only H → SqL K H a (ns.map V.int) → sp [.ref a] H (fun v _ => v = .bl true) fun _ _ _ => False) :
    codeAny (model P w) callerA (.call (.ref fa) ⟨[.ref a], []⟩) (fun r s' => r = .ok (.ret (.bool true)) ∧ OldK s1.heap s'.heap ∧ s'.os = s1.os ∧ AllBare s'.gens) s1 := by
  have rv := vals_ints hi
  have lenV := hi.length
  have core : ∀ H : Hp, Only H → SqL K H a (ns.map V.int) → HOk P w H s1.heap → (∀ b, H b ≠ none → b = a) → (H a ≠ none → K.lookup a = none) →
      codeAny (model P w) callerA (.call (.ref fa) ⟨[.ref a], []⟩) (fun r s' => r = .ok (.ret (.bool true)) ∧ OldK s1.heap s'.heap ∧ s'.os = s1.os ∧ AllBare s'.gens) s1 := by
    intro H hO hS hok onlyA notK
    have noDict : ∀ {b : Addr} {o : Obj} {es : Array DictEntry} {ep : Nat}, s1.heap.get? b = some o → o.data = .dict es ep → H b = none := fun {b o es ep} e d => by
      cases q : H b with
      | none => rfl
      | some u =>
        obtain rfl : b = a := onlyA b (by rw [q]; simp)
        rw [ha] at e
        cases e
        exact nomatch (show Data.seq vs.toArray _ = Data.dict es ep from d)
    have nsK : ∀ {b : Addr} {m : Str → Option Value}, s1.heap.Ns b m → (hidT s1.heap H).Ns b m := fun {b m} ⟨o, es, ep, e, d, r⟩ => ⟨o, es, ep, hidT_get e (noDict e d), d, r⟩
    have kin : K.In (hidT s1.heap H) := fun b o e => hidT_get (KX b o e) (by
      cases q : H b with
      | none => rfl
      | some u =>
        obtain rfl : b = a := onlyA b (by rw [q]; simp)
        rw [notK (by rw [q]; simp)] at e
        cases e)
    obtain ⟨mc, c1, c2⟩ := hlim
    have hM : Mod K mg (hidT s1.heap H) := ⟨kin, nsK hns, ⟨mb, nsK hb, hbb⟩, ⟨mc, nsK c1, c2⟩⟩
    have noF : ∀ b, b ∉ frs [] := fun b z => absurd (show b ∈ ([] : List Addr) from z) (by simp)
    have e0 : Env0 P w K mg (hidT s1.heap H) callerA [] s1 H :=
      ⟨rfl, hM, fun b o e => of_hidT e, Nat.le_of_eq (hidT_size _ _), trivial, fun b z => absurd z (noF b), hok, .of_eq hg⟩
    refine codeAny_mono ((F _ kin (nsK hns)).run callerA [] s1 H ⟨[.ref a], []⟩ [.ref a] [.ref a] _ _ hr rfl e0 (hbind s1 (.ref a)) (.cons rfl .nil) (hsp H hO hS)) fun r s' h => ?_
    cases r with
    | error e => exact False.elim h
    | ok fl =>
      cases fl with
      | next => exact False.elim h
      | brk => exact False.elim h
      | cont => exact False.elim h
      | ret u =>
        obtain ⟨v, H', os, bare, un, hok', r', q⟩ := h
        obtain rfl : v = .bl true := q
        obtain rfl : u = Value.bool true := r'
        refine ⟨rfl, OldK.of_keep fun b o e => ?_, os, bare⟩
        cases q : H b with
        | none => exact un.keep b o e q (noF b) (by simp)
        | some u =>
          rcases hO b with z | ⟨ob, xs, z⟩
          · rw [q] at z
            cases z
          · obtain ⟨e1, _⟩ := hok b _ z
            obtain ⟨e2, _⟩ := hok' b _ (un.frzs b ob _ z)
            rw [e] at e1
            cases e1
            exact e2
  cases hk : K.lookup a with
  | some o =>
    have e := KX a o hk
    rw [ha] at e
    cases e
    refine core (fun _ => none) (fun _ => .inl rfl) (.inr ⟨_, vs.toArray, _, hk, rfl, rfl, rfl, ?_, by simpa using rv⟩) (fun b u z => ?_) (fun b z => absurd rfl z) fun z => absurd rfl z
    · rw [List.size_toArray, lenV]
      exact hl
    · exact nomatch (show (none : Option HO) = some u from z)
  | none =>
    refine core (fun b => if b = a then some (.frz { cls := .type "list", data := .seq vs.toArray } (.lst (ns.map V.int))) else none) (fun b => ?_)
      (.inl (.inr ⟨{ cls := .type "list", data := .seq vs.toArray }, if_pos rfl⟩)) (fun b u z => ?_) (fun b z => ?_) fun _ => hk
    · by_cases hb : b = a
      · exact .inr ⟨_, _, if_pos hb⟩
      · exact .inl (if_neg hb)
    · by_cases hb : b = a
      · have z2 := (if_pos hb).symm.trans z
        cases z2
        subst hb
        exact ⟨ha, by rw [List.length_map]; exact hl, vs, _, rv, ha⟩
      · exact nomatch (if_neg hb).symm.trans z
    · by_cases hb : b = a
      · exact hb
      · exact absurd (if_neg hb) z
theorem walk_ofG {l : PySem.W.OpenLaw} {n k : Nat} {q : Program} {loose : List Str} {XP : (Str → Option Value) → Heap → Prop} {YP : World → Heap → Prop} {d : DefRec} {K : Params → PySem.W.Frag} {sp : PySem.W.Frag → Sp} {x : Str}
    (hn : l.most = some n) (hn2 : n ≤ sizeLine) (hdf : d.params.defaults = []) (hr : Room k callerA) (hY : ∀ (w : World) (h : Heap), YP w h → (K w.params).In h)
    (F : ∀ (w : World) (mg : Str → Option Value) (fa : Addr) (h : Heap), (K w.params).In h → h.Ns mainGlobals mg → mg d.name = some (.ref fa) →
      ∃ fd : FuncData, (∀ (s : Shared) (u : Value), BindsTo s fd ⟨[u], []⟩ [(x, u)]) ∧
        ∀ base : Heap, (K w.params).In base → base.Ns mainGlobals mg → FnG l.prog w (K w.params) mg base CX0 k fa fd [x] (sp (K w.params)))
    (hsp : ∀ (K : PySem.W.Frag) (H : Hp) (a : Addr) (ns : List Int), ns.length ≤ n → Only H → SqL K H a (ns.map V.int) → sp K [.ref a] H (fun v _ => v = .bl true) fun _ _ _ => False) :
    PySem.W.WalkO q loose XP YP l.row.toRowW d [] (fun f vs => PySem.call f vs) := by
  refine Att.attach_call hn hdf fun w s0 s1 mg mb fa o pm cd doc a vs ns G Y ho hd hcd hmg hobj hints hlen hg => ?_
  have KX := hY w _ Y
  obtain ⟨fd, hb, hF⟩ := F w mg fa _ KX G.T.g hmg
  exact law_callG KX G.T.g G.T.b G.T.builtins G.T.nolimit hg hobj hints (Nat.le_trans hlen hn2) hr hF hb fun H hO hS => hsp _ H a ns hlen hO hS
end EV
end L2

set_option Elab.async false
set_option linter.all false
set_option maxRecDepth 100000
set_option maxHeartbeats 4000000
/-! repr of a list of data. -/
namespace L2
namespace EV
open PySem PySem.Spec PyProof.Rows _root_.EV
/-- v stands for d: data without dicts, or the dict {"a": 1} -/
inductive Sh (K : PySem.W.Frag) (H : Hp) : V → PyData → Prop
  | plain {v : V} {d : PyData} : Dp K H v d → d.hasDict = false → Sh K H v d
  | one {a : Addr} : H a = some (.dK [(Sum.inr "a", V.int 1)]) → Sh K H (.ref a) (.dict [(.str "a", .int 1)])
def Small (d : PyData) : Prop := d.showable = true ∧ d.shown.length ≤ 60 ∧ d.depth ≤ 5
inductive ShAll (K : PySem.W.Frag) (H : Hp) : List V → List PyData → Prop
  | nil : ShAll K H [] []
  | cons {v : V} {vs : List V} {d : PyData} {ds : List PyData} : Sh K H v d → Small d → ShAll K H vs ds → ShAll K H (v :: vs) (d :: ds)
section
variable {X : Cx} {pins : List (Addr × Obj)} {σ : St} {H : Hp} {s : Shared}
theorem sh_reads (I : Inv X pins σ H s) {v : V} {d : PyData} {u : Value} (h : Sh X.K H v d) (r : RelV v u) : ∃ as, Reads s.heap u d as ∧ (d.hasDict = true → sysModules ∉ as) := by
  cases h with
  | plain hd no =>
    obtain ⟨as, q⟩ := Dp.reads I d v u hd r
    exact ⟨as, q, fun z => by rw [no] at z; cases z⟩
  | @one a e =>
    obtain rfl : u = Value.ref a := r
    obtain ⟨_, nsys, vs, kv, o, es, ep, ho, ex, hd, _, pr, _⟩ := (show ObjOk X.prog X.w H s.heap a (.dK [(Sum.inr "a", V.int 1)]) from I.hok a _ e)
    cases kv with
    | @cons _ p _ ps hk kr =>
      cases kr
      obtain ⟨k, v⟩ := p
      obtain ⟨ek, t, ev⟩ := hk
      dsimp only at ek ev
      subst ek ev
      generalize hes : es.toList = l at pr
      cases pr with
      | @cons e1 _ l2 _ k1 k2 k3 =>
        cases k3
        obtain ⟨t2, ek⟩ : ∃ t2, e1.key = Value.str "a" t2 := Value.isStrOf_shape k1
        refine ⟨[a], Reads.dict (as := []) (bs := []) ho ex.1 hd ?_ ?_, fun _ z => ?_⟩
        · rw [hes]
          show ReadsAll s.heap [e1.key] [PyData.str "a"] []
          rw [ek]
          exact ReadsAll.cons (Reads.str _ _) ReadsAll.nil
        · rw [hes]
          show ReadsAll s.heap [e1.val] [PyData.int 1] []
          rw [k2]
          exact ReadsAll.cons (Reads.int _ _) ReadsAll.nil
        · obtain rfl : sysModules = a := by simpa using z
          simp at nsys
theorem sh_all (I : Inv X pins σ H s) : ∀ {vs : List V} {ds : List PyData} {us : List Value}, ShAll X.K H vs ds → Vals vs us →
    ∃ as bs, ReadsAll s.heap us ds as ∧ ReadAtMost s.heap (PyData.depthAll ds) bs ∧ ReprAllK X.prog X.w bs s.heap (PyData.depthAll ds) us (PyData.shownAll ds)
  | _, _, _, .nil, .nil => ⟨[], [], ReadsAll.nil, (fun _ h => nomatch h), by simp only [PyData.shownAll]; exact .nil⟩
  | _, _, _, .cons (d := d) (ds := ds) h sm t, .cons r rt => by
    obtain ⟨as1, q1, hsm⟩ := sh_reads I h r
    obtain ⟨as2, b2, q2, m2, k2⟩ := sh_all I t rt
    obtain ⟨b1, m1, k1⟩ := ReprK.of_reads (prog := X.prog) (w := X.w) q1 sm.1 hsm (Nat.le_trans sm.2.1 (by decide))
    refine ⟨as1 ++ as2, b1 ++ b2, ReadsAll.cons q1 q2, ?_, ?_⟩
    · simp only [PyData.depthAll]
      exact (m1.mono (Nat.le_max_left _ _)).append (m2.mono (Nat.le_max_right _ _))
    · simp only [PyData.depthAll, PyData.shownAll]
      exact .cons ((k1.more fun b hb => List.mem_append_left _ hb).level_le (Nat.le_max_left _ _)) (k2.more_le (fun b hb => List.mem_append_right _ hb) (Nat.le_max_right _ _))
theorem shall_depth {K : PySem.W.Frag} {H : Hp} : ∀ {vs : List V} {ds : List PyData}, ShAll K H vs ds → PyData.depthAll ds ≤ 5 ∧ (∀ t ∈ PyData.shownAll ds, t.length ≤ 60) ∧ (PyData.shownAll ds).length = vs.length
  | _, _, .nil => ⟨by simp only [PyData.depthAll]; omega, by simp [PyData.shownAll], by simp [PyData.shownAll]⟩
  | _, _, .cons h sm t => by
    obtain ⟨h1, h2, h3⟩ := shall_depth t
    refine ⟨by simp only [PyData.depthAll]; have := sm.2.2; omega, ?_, by simp [PyData.shownAll, h3]⟩
    intro t ht
    simp only [PyData.shownAll, List.mem_cons] at ht
    rcases ht with rfl | ht
    · exact sm.2.1
    · exact h2 t ht
theorem sum_le60 : ∀ {ts : List Str}, (∀ t ∈ ts, t.length ≤ 60) → (ts.map (·.length)).sum ≤ 60 * ts.length
  | [], _ => by simp
  | t :: ts, h => by
    have h1 := h t (List.mem_cons_self ..)
    have h2 := sum_le60 (ts := ts) fun t ht => h t (List.mem_cons_of_mem _ ht)
    simp only [List.map_cons, List.sum_cons, List.length_cons]
    omega
/-- repr(l), l a list of some data -/
def rShow (K : PySem.W.Frag) : List V → Hp → VK → Prop := fun xs H Q => ∃ (l : Addr) (v : V) (vs : List V) (ds : List PyData), xs = [.ref l] ∧ H l = some (.lst (v :: vs)) ∧ ShAll K H (v :: vs) ds ∧ vs.length ≤ 1000 ∧
  Q (.str (listText (PyData.shownAll ds))) H
theorem call_show (hgd : X.A.guards = some []) (hu : X.A.units + 64 < cLine) : CallR X (.builtin "repr") (rShow X.K) := by
  intro pins s σ H xs us Q I r h
  obtain ⟨l, v, vs, ds, rfl, e, sh, lz, q⟩ := h
  obtain ⟨u, rfl, ru⟩ := vals1 r
  obtain rfl : u = Value.ref l := ru
  obtain ⟨_, its, n, rv, ho⟩ := (show ObjOk X.prog X.w H s.heap l (.lst (v :: vs)) from I.hok l _ e)
  obtain ⟨as, bs, q1, m1, k1⟩ := sh_all I sh rv
  obtain ⟨dp, sz, ln⟩ := shall_depth sh
  have whole : Reads s.heap (.ref l) (.list ds) (l :: as) := Reads.list ho rfl rfl (by simpa using q1)
  have hna : l ∉ bs := not_mem_of_deeper whole (by simp only [PyData.depth]; omega) m1
  have hz : (listText (PyData.shownAll ds)).length ≤ sizeLine := by
    have h1 := listText_len_le (PyData.shownAll ds)
    have h2 := sum_le60 sz
    rw [ln, List.length_cons] at *
    rw [sizeLine_eq]
    omega
  cases rv with
  | @cons _ u1 _ ut r1 r2 =>
    refine call_repr_slot (by omega) ⟨_, ho, rfl⟩ PySem.F.slot_list_repr.toG ?_
    refine call_list_reprK ho rfl rfl hna (by simpa using k1.length_eq) (fun i y ey => k1.item i y (by simpa using ey)) (A := X.A.in1) hgd (fun b _ => Clear.nil b) ?_ (fun _ _ z => z) (fun h' t tk hk => ⟨_, _, rfl, ?_⟩) hz
    · show X.A.units + 1 + (PyData.depthAll ds + 1) < cLine
      omega
    · exact ⟨.str _, H, I.kept (t' := tk) hk, ⟨_, rfl⟩, q⟩
end
end EV
end L2

set_option Elab.async false
set_option linter.all false
set_option maxRecDepth 100000
set_option maxHeartbeats 4000000
/-! Tuples of an int, a text and an int: sorted, and <=. -/
namespace L2
open PySem PySem.Spec PyProof.Rows
abbrev T3 : Type := Int × Str × Int
abbrev sl (a : Str) : List Nat := a.cps.toList
theorem sl_inj {a b : Str} (h : sl a = sl b) : a = b := by
  cases a with
  | mk x =>
    cases b with
    | mk y =>
      have : x = y := Array.toList_inj.mp h
      rw [this]
/-- x is ahead of y -/
def lt3 (a b : T3) : Bool := if a.1 = b.1 then (if a.2.1 = b.2.1 then decide (a.2.2 < b.2.2) else decide (sl a.2.1 < sl b.2.1)) else decide (a.1 < b.1)
theorem lt3_iff {a b : T3} : lt3 a b = true ↔ a.1 < b.1 ∨ (a.1 = b.1 ∧ (sl a.2.1 < sl b.2.1 ∨ (a.2.1 = b.2.1 ∧ a.2.2 < b.2.2))) := by
  unfold lt3
  by_cases e1 : a.1 = b.1
  · rw [if_pos e1]
    by_cases e2 : a.2.1 = b.2.1
    · rw [if_pos e2, decide_eq_true_eq]
      refine ⟨fun h => .inr ⟨e1, .inr ⟨e2, h⟩⟩, ?_⟩
      rintro (h | ⟨_, h | ⟨_, h⟩⟩)
      · omega
      · rw [e2] at h
        exact absurd h (List.lt_irrefl _)
      · exact h
    · rw [if_neg e2, decide_eq_true_eq]
      refine ⟨fun h => .inr ⟨e1, .inl h⟩, ?_⟩
      rintro (h | ⟨_, h | ⟨h, _⟩⟩)
      · omega
      · exact h
      · exact absurd h e2
  · rw [if_neg e1, decide_eq_true_eq]
    refine ⟨fun h => .inl h, ?_⟩
    rintro (h | ⟨h, _⟩)
    · exact h
    · exact absurd h e1
theorem lt3_no {a b : T3} : lt3 a b = false ↔ ¬ (a.1 < b.1 ∨ (a.1 = b.1 ∧ (sl a.2.1 < sl b.2.1 ∨ (a.2.1 = b.2.1 ∧ a.2.2 < b.2.2)))) := by
  rw [← lt3_iff]
  cases lt3 a b <;> simp
theorem swo3 : SrtO.Swo lt3 := by
  refine ⟨fun x y h => ?_, fun x y z h1 h2 => ?_⟩
  · have a := lt3_iff.mp h
    refine lt3_no.mpr ?_
    rintro (h1 | ⟨h1, h2⟩)
    · rcases a with a | ⟨a, _⟩ <;> omega
    · rcases a with a | ⟨_, a⟩
      · omega
      · rcases h2 with h2 | ⟨h2, h3⟩
        · rcases a with a | ⟨a, _⟩
          · exact List.lt_asymm a h2
          · rw [a] at h2
            exact List.lt_irrefl _ h2
        · rcases a with a | ⟨_, a⟩
          · rw [h2] at a
            exact List.lt_irrefl _ a
          · omega
  · have a := lt3_no.mp h1
    have b := lt3_no.mp h2
    refine lt3_no.mpr ?_
    have a1 : ¬ y.1 < x.1 := fun q => a (.inl q)
    have b1 : ¬ z.1 < y.1 := fun q => b (.inl q)
    rintro (q | ⟨q1, q2⟩)
    · omega
    · have e1 : y.1 = x.1 := by omega
      have e2 : z.1 = y.1 := by omega
      have a2 : ¬ sl y.2.1 < sl x.2.1 := fun q => a (.inr ⟨e1, .inl q⟩)
      have b2 : ¬ sl z.2.1 < sl y.2.1 := fun q => b (.inr ⟨e2, .inl q⟩)
      have l1 : sl x.2.1 ≤ sl y.2.1 := List.not_lt.mp a2
      have l2 : sl y.2.1 ≤ sl z.2.1 := List.not_lt.mp b2
      rcases q2 with q2 | ⟨q2, q3⟩
      · exact absurd q2 (List.not_lt.mpr (List.le_trans l1 l2))
      · have e3 : sl y.2.1 = sl x.2.1 := by
          rw [q2] at l2
          exact List.le_antisymm l2 l1
        have e4 := sl_inj e3
        have a3 : ¬ y.2.2 < x.2.2 := fun q => a (.inr ⟨e1, .inr ⟨e4, q⟩⟩)
        have b3 : ¬ z.2.2 < y.2.2 := fun q => b (.inr ⟨e2, .inr ⟨q2.trans e4.symm, q⟩⟩)
        omega
theorem swo3k {α : Type} (k : α → T3) : SrtO.Swo fun v u : α => lt3 (k v) (k u) := ⟨fun x y => swo3.asym (k x) (k y), fun x y z => swo3.tr (k x) (k y) (k z)⟩
/-- v is a tuple of an int, a text and an int in the heap -/
def IsTrip (h : Heap) (v : Value) (x : T3) : Prop := ∃ a o t u r n, v = .ref a ∧ h.get? a = some o ∧ o.cls = .type "tuple" ∧ o.data = .seq #[.int x.1 t, .str x.2.1 u, .int x.2.2 r] n
theorem IsTrip.keeps {h h' : Heap} {v : Value} {x : T3} (p : IsTrip h v x) (k : ∀ b o, h.get? b = some o → o.cls = .type "tuple" → h'.get? b = some o) : IsTrip h' v x := by
  obtain ⟨a, o, t, u, r, n, e, ho, hc, hd⟩ := p
  exact ⟨a, o, t, u, r, n, e, k _ _ ho hc, hc, hd⟩
theorem firsts3 {h : Heap} : ∀ {vs : List Value}, (∀ v ∈ vs, ∃ x, IsTrip h v x) → ∃ fs : List Value, PySem.W.KatTups h vs fs ∧ fs.length = vs.length ∧ ∀ f ∈ fs, ∃ x t, f = Value.int x t
  | [], _ => ⟨[], PySem.W.KatTups.nil, rfl, fun _ hm => by simp at hm⟩
  | v :: vs, hp => by
    obtain ⟨fs, h1, h2, h3⟩ := firsts3 (vs := vs) fun v' hm => hp v' (List.mem_cons_of_mem _ hm)
    obtain ⟨x, a, o, t, u, r, n, e, ho, hc, hd⟩ := hp v (List.mem_cons_self ..)
    subst e
    refine ⟨.int x.1 t :: fs, PySem.W.KatTups.cons ho hc hd rfl h1, by rw [List.length_cons, List.length_cons, h2], fun f hm => ?_⟩
    rcases List.mem_cons.mp hm with rfl | hm
    · exact ⟨x.1, t, rfl⟩
    · exact h3 f hm
section
variable {prog : Program} {w : World} {A : Around} {E : Value → Shared → Prop} {s : Shared}
theorem trip_cmp {vs : List Value} {k : Value → T3} (hp : ∀ v ∈ vs, IsTrip s.heap v (k v)) : SrtO.Cmp prog w A s (tuples' true) (fun p => p.1 ∈ vs) (SrtO.lt2 fun v u => lt3 (k v) (k u)) := by
  intro p q hm hm'
  have h1 := hp _ hm
  have h2 := hp _ hm'
  show wpAny (model prog w) A (keyLt' (tuples' true) p.1 q.1) (fun r s' => s' = s ∧ r = lt3 (k p.1) (k q.1)) (fun _ _ => False) s
  generalize k p.1 = x at h1 ⊢
  generalize k q.1 = y at h2 ⊢
  obtain ⟨x1, x2, x3⟩ := x
  obtain ⟨y1, y2, y3⟩ := y
  obtain ⟨a, o, t, u, r, n, e, ho, hc, hd⟩ := h1
  obtain ⟨a', o', t', u', r', n', e', ho', hc', hd'⟩ := h2
  rw [e, e']
  unfold lt3
  refine PySem.W.kat_lt ho hd ho' hd' ?_
  show PySem.W.KatLex prog w A true (decide (3 < 3)) _ [(.int x1 t, .int y1 t'), (.str x2 u, .str y2 u'), (.int x3 r, .int y3 r')] 0 s
  refine PySem.W.kat_cons (SeqAt.EqAt.int_int x1 t y1 t' prog w _ _ ?_)
  refine PySem.W.kat_go (fun e1 => ?_) (fun e1 => ?_)
  · have ex : x1 = y1 := by simpa using e1
    subst ex
    refine PySem.W.kat_yes (PySem.W.kat_cons (SeqAt.EqAt.str_str x2 u y2 u' prog w _ _ ?_))
    refine PySem.W.kat_go (fun e2 => ?_) (fun e2 => ?_)
    · have ey : x2 = y2 := by simpa using e2
      subst ey
      refine PySem.W.kat_yes (PySem.W.kat_cons (SeqAt.EqAt.int_int x3 r y3 r' prog w _ _ ?_))
      refine PySem.W.kat_go (fun e3 => ?_) (fun e3 => ?_)
      · have ez : x3 = y3 := by simpa using e3
        subst ez
        refine PySem.W.kat_yes (PySem.W.kat_nil ⟨rfl, ?_⟩)
        simp
      · refine PySem.W.kat_no (PySem.W.kat_one _ _ (PyProof.Rows.lt_int ?_))
        refine (show s = s ∧ _ from ⟨rfl, ?_⟩)
        simp
    · have ey : ¬ x2 = y2 := by simpa using e2
      refine PySem.W.kat_no (PySem.W.kat_one _ _ (PyProof.Rows.lt_str ?_))
      refine (show s = s ∧ _ from ⟨rfl, ?_⟩)
      simp [ey]
  · have ex : ¬ x1 = y1 := by simpa using e1
    refine PySem.W.kat_no (oneLt_int ⟨rfl, ?_⟩)
    simp [ex]
theorem trips_sortable {a : Addr} {vs : List Value} {k : Value → T3} (h0 : 0 < vs.length) (hp : ∀ v ∈ vs, IsTrip s.heap v (k v)) (ha : ∀ o, s.heap.get? a = some o → o.cls ≠ .type "tuple") : SrtO.SortableO prog w A s a vs fun v u => lt3 (k v) (k u) := by
  intro h' keep
  have hp' : ∀ v ∈ vs, IsTrip h' v (k v) := fun v hm => (hp v hm).keeps fun b o e c => keep b o (fun z => by subst z; exact ha o e c) e
  obtain ⟨fs, h1, h2, h3⟩ := firsts3 fun v hm => ⟨_, hp' v hm⟩
  refine ⟨tuples' true, fun Q E hq => ?_, trip_cmp hp'⟩
  refine PySem.W.kat_kind (T := .type "int") h1 (by omega) (fun f hm => ?_) (by rfl) ?_
  · obtain ⟨x, t, rfl⟩ := h3 f hm
    exact PySem.W.Looks.now
  · have e : (Value.type "int" != Value.type "tuple") = true := by first | decide +kernel | rfl | decide
    rw [e]
    exact hq
theorem sorted_trips {l : Addr} {vs : List Value} {k : Value → T3} {Q : Value → Shared → Prop} (hl : s.heap.IsList l vs.toArray) (hz : vs.length ≤ sizeLine) (hp : ∀ v ∈ vs, IsTrip s.heap v (k v))
    (h : ∀ (h' : Heap) (d : Addr) (out : List Value), SrtO.Srtd (fun v u => lt3 (k v) (k u)) out → SrtO.Stb (fun v u => lt3 (k v) (k u)) out vs → (∀ b o, s.heap.get? b = some o → h'.get? b = some o) → s.heap.objs.size ≤ d → (∃ n, h'.get? d = some (seqObj "list" out.toArray n)) → Q (.ref d) { s with heap := h' }) :
    wpAny (model prog w) A (call (.builtin "sorted") [.ref l]) Q E s := by
  refine SrtO.sorted_ord (swo3k k) hl hz (fun h2 h₁ a ha kk => ?_) fun out hs hb => ?_
  · refine trips_sortable (s := { s with heap := h₁ }) (by omega) (fun v hm => (hp v hm).keeps fun b o e _ => (kk b o e).2) fun o e => ?_
    have e' : some o = some (seqObj "list" vs.toArray 0) := e.symm.trans ha
    cases e'
    intro c
    exact absurd (Value.type.inj c) (by decide)
  · exact h _ _ out hs hb (fun b o e => sortedAll_old e) (Nat.le_succ _) (sortedAll_at s.heap vs out.toArray)
end
/-- sorted(xs), xs a list of such tuples (k says which): a new list of the same ones -/
def rSorted3 (K : PySem.W.Frag) : List V → Hp → VK → Prop := fun vs H Q => ∃ (a : Addr) (xs : List V) (k : V → T3), vs = [V.ref a] ∧ SqL K H a xs ∧ (∀ x ∈ xs, ∃ t, x = V.ref t ∧ H t = some (.tup [.int (k x).1, .str (k x).2.1, .int (k x).2.2])) ∧
  ∀ ys p, SrtO.Srtd (fun x y => lt3 (k x) (k y)) ys → ys.Perm xs → H p = none → Q (.ref p) (upd H p (.lst ys))
theorem vals_3 {x y z : V} {us : List Value} (r : Vals [x, y, z] us) : ∃ u w' t', us = [u, w', t'] ∧ RelV x u ∧ RelV y w' ∧ RelV z t' := by
  cases r with
  | cons r1 r2 =>
    obtain ⟨u, w', rfl, r3, r4⟩ := vals2 r2
    exact ⟨_, u, w', rfl, r1, r3, r4⟩
section
variable {X : Cx}
theorem cr_sorted3 : CallR X (.builtin "sorted") (rSorted3 X.K) := by
  intro pins s σ H vs us Q I r h
  obtain ⟨a, xs, k, rfl, hs, hx, q⟩ := h
  obtain ⟨its, rv, hl, hz⟩ := I.list hs
  obtain ⟨u, rfl, ru⟩ := vals1 r
  obtain rfl : u = Value.ref a := ru
  obtain ⟨e1, e2⟩ := refs_back rv fun x m => by
    obtain ⟨t, e, _⟩ := hx x m
    exact ⟨t, e⟩
  refine sorted_trips (k := fun u => k (backV u)) hl.isList (by rw [← rv.length]; exact hz) (fun v hv => ?_) fun h' d out h1 h2 kp hd hn => ?_
  · obtain ⟨t, rfl⟩ := e2 v hv
    have hm : V.ref t ∈ xs := by rw [e1]; exact List.mem_map.mpr ⟨_, hv, rfl⟩
    obtain ⟨t', e, ht⟩ := hx _ hm
    cases e
    obtain ⟨_, its2, r2, o, ho, hc, n, hd⟩ := I.hok _ _ ht
    obtain ⟨u1, u2, u3, rfl, ri, rj, rk⟩ := vals_3 r2
    obtain ⟨t1, rfl⟩ := ri
    obtain ⟨t2, rfl⟩ := rj
    obtain ⟨t3, rfl⟩ := rk
    exact ⟨t, o, t1, t2, t3, n, rfl, ho, hc, hd⟩
  · have h3 : ∀ u ∈ out, ∃ a, u = Value.ref a := fun u hu => e2 u (h2.perm.mem_iff.mp hu)
    obtain ⟨n, hn⟩ := hn
    have hb : SrtO.Stb (fun x y => lt3 (k x) (k y)) (out.map backV) xs := by
      rw [e1]
      exact SrtO.Stb.map (swo3k k) backV h2
    refine ⟨.ref d, upd H d (.lst (out.map backV)), I.laid (t' := s.toks) kp hd ⟨?_, out, n, vals_back h3, hn⟩, rfl, q _ d (SrtO.srtd_map h1) hb.perm (I.hok.fresh hd)⟩
    rw [hb.len]
    exact hz
/-- x <= y of two such tuples -/
def rLe3 : R2 := fun x y H Q => ∃ (a b : Addr) (m n : T3), x = .ref a ∧ y = .ref b ∧ H a = some (.tup [.int m.1, .str m.2.1, .int m.2.2]) ∧ H b = some (.tup [.int n.1, .str n.2.1, .int n.2.2]) ∧ Q (.bl (!lt3 n m)) H
theorem le_lex (m n : T3) : Ob.lexAt (fun j => if j = 0 then m.1 == n.1 else if j = 1 then m.2.1 == n.2.1 else m.2.2 == n.2.2)
    (fun j => if j = 0 then decide (m.1 ≤ n.1) else if j = 1 then decide (sl m.2.1 ≤ sl n.2.1) else decide (m.2.2 ≤ n.2.2)) true 0 3 = !lt3 n m := by
  obtain ⟨m1, m2, m3⟩ := m
  obtain ⟨n1, n2, n3⟩ := n
  simp only [Ob.lexAt, lt3]
  by_cases e1 : m1 = n1
  · subst e1
    by_cases e2 : m2 = n2
    · subst e2
      by_cases e3 : m3 = n3
      · subst e3
        simp
      · simp only [beq_self_eq_true, if_true, Nat.zero_add, Nat.one_ne_zero, if_false, Nat.reduceAdd, Nat.reduceEqDiff, beq_iff_eq, e3]
        by_cases z : m3 ≤ n3
        · rw [decide_eq_true z, decide_eq_false (by omega)]
          rfl
        · rw [decide_eq_false z, decide_eq_true (by omega)]
          rfl
    · have e2' : ¬ n2 = m2 := fun z => e2 z.symm
      simp only [beq_self_eq_true, if_true, Nat.zero_add, Nat.one_ne_zero, if_false, beq_iff_eq, e2, e2']
      by_cases z : sl m2 ≤ sl n2
      · rw [decide_eq_true z, decide_eq_false (List.not_lt.mpr z)]
        rfl
      · rw [decide_eq_false z, decide_eq_true (List.not_le.mp z)]
        rfl
  · have e1' : ¬ n1 = m1 := fun z => e1 z.symm
    simp only [if_true, beq_iff_eq, e1, e1', if_false]
    by_cases z : m1 ≤ n1
    · rw [decide_eq_true z, decide_eq_false (by omega)]
      rfl
    · rw [decide_eq_false z, decide_eq_true (by omega)]
      rfl
theorem RcOp.le_str {A : Around} {s : Shared} (a b : Str) (t u : Tok) : Ob.RcOp .LtE A s (.str a t) (.str b u) (decide (sl a ≤ sl b)) := fun _ _ _ _ h => PySem.P.le_str (by
  have e : (!decide (b.cps.toList < a.cps.toList)) = decide (sl a ≤ sl b) := by
    by_cases z : sl a ≤ sl b
    · rw [decide_eq_true z, decide_eq_false (List.not_lt.mpr z)]
      rfl
    · rw [decide_eq_false z, decide_eq_true (List.not_le.mp z)]
      rfl
  rw [e]
  exact h)
theorem op_le3 (hu : X.A.units < cLine) : OpR X (compareOp .LtE) rLe3 := by
  intro pins s σ H x y v u Q I rx ry h
  obtain ⟨a, b, m, n, rfl, rfl, ha, hb, q⟩ := h
  cases rx
  cases ry
  obtain ⟨its, r1, p1, _⟩ := I.tuple (SqT.of ha)
  obtain ⟨its2, r2, p2, _⟩ := I.tuple (SqT.of hb)
  obtain ⟨u1, u2, u3, rfl, ⟨t1, rfl⟩, ⟨t2, rfl⟩, ⟨t3, rfl⟩⟩ := vals_3 r1
  obtain ⟨v1, v2, v3, rfl, ⟨w1, rfl⟩, ⟨w2, rfl⟩, ⟨w3, rfl⟩⟩ := vals_3 r2
  have R := Ob.RcOp.tuples_le (A := X.A) (s := s) (e := fun j => if j = 0 then m.1 == n.1 else if j = 1 then m.2.1 == n.2.1 else m.2.2 == n.2.2)
    (r := fun j => if j = 0 then decide (m.1 ≤ n.1) else if j = 1 then decide (sl m.2.1 ≤ sl n.2.1) else decide (m.2.2 ≤ n.2.2)) p1 p2 hu (fun j h1 h2 => by
    match j, h1 with
    | 0, _ => exact SeqAt.EqAt.int_int _ _ _ _
    | 1, _ => exact SeqAt.EqAt.str_str _ _ _ _
    | 2, _ => exact SeqAt.EqAt.int_int _ _ _ _) (fun j h1 h2 _ => by
    match j, h1 with
    | 0, _ => exact Ob.RcOp.le_int _ _ _ _
    | 1, _ => exact RcOp.le_str _ _ _ _
    | 2, _ => exact Ob.RcOp.le_int _ _ _ _)
  have e3 : Ob.lexAt (fun j => if j = 0 then m.1 == n.1 else if j = 1 then m.2.1 == n.2.1 else m.2.2 == n.2.2)
    (fun j => if j = 0 then decide (m.1 ≤ n.1) else if j = 1 then decide (sl m.2.1 ≤ sl n.2.1) else decide (m.2.2 ≤ n.2.2)) (decide (3 ≤ 3)) 0 (min 3 3) = !lt3 n m := le_lex m n
  have z : wpAny (model X.prog X.w) X.A (compareOp .LtE (.ref a) (.ref b)) (EP X pins σ Q) X.xe s := R X.prog X.w X.xe (EP X pins σ Q) ⟨.bl _, H, I, rfl, by
    rw [← e3] at q
    exact q⟩
  exact z
end
end L2

set_option Elab.async false
set_option linter.all false
set_option maxRecDepth 100000
set_option maxHeartbeats 4000000
/-! The law's draws. -/
namespace K34
open PySem L2 L2.EV
def top (i : Nat) : Stmt := PySem.Challenge.pw_tornlines_k34_weavings_refused.main.body.getD i (.Pass ⟨0, 0, 0, 0⟩)
abbrev sBegun : Stmt := top 86
abbrev sNext : Stmt := top 87
/-! ### data of ints -/
theorem canLay_ints : ∀ ns : List Int, PyData.canLayAll0 (ns.map PyData.int) = true
  | [] => by simp [PyData.canLayAll0]
  | n :: ns => by simp [PyData.canLayAll0, PyData.canLay0, canLay_ints ns]
theorem depth_ints : ∀ ns : List Int, PyData.depthAll (ns.map PyData.int) = 0
  | [] => by simp [PyData.depthAll]
  | n :: ns => by simp [PyData.depthAll, PyData.depth, depth_ints ns]
theorem shaped_ints (ns : List Int) : SeqAt.shaped (.list (ns.map PyData.int)) = true := by
  show (PyData.canLay0 (.list (ns.map PyData.int)) && decide (PyData.depth (.list (ns.map PyData.int)) ≤ 64)) = true
  rw [Bool.and_eq_true]
  refine ⟨by simp only [PyData.canLay0]; exact canLay_ints ns, decide_eq_true ?_⟩
  simp only [PyData.depth, depth_ints]
  omega
theorem dp_ints {K : PySem.W.Frag} {H : Hp} : ∀ ns : List Int, DpAll K H (ns.map V.int) (ns.map PyData.int)
  | [] => .nil
  | n :: ns => .cons (.int n) (dp_ints ns)
theorem dp_list {K : PySem.W.Frag} {H : Hp} {a : Addr} {ns : List Int} (h : H a = some (.lst (ns.map V.int))) : Dp K H (.ref a) (.list (ns.map PyData.int)) := .lst (SqL.of h) (dp_ints ns)
theorem eqv_nil (ns : List Int) : PyData.eqv (.list (ns.map PyData.int)) (.list []) = ns.isEmpty := by
  cases ns <;> simp [PyData.eqv, PyData.eqvAll]
/-! ### the draws' dict -/
def mkv (c l : Addr) (k : Int) : List (Key × V) := [(Sum.inr "cells", .ref c), (Sum.inr "left", .ref l), (Sum.inr "at", .int k)]
theorem n1 : ¬ (("cells" : Str) = "left") := by decide +kernel
theorem n2 : ¬ (("cells" : Str) = "at") := by decide +kernel
theorem n3 : ¬ (("left" : Str) = "at") := by decide +kernel
theorem n1' : ¬ (("left" : Str) = "cells") := by decide +kernel
theorem n2' : ¬ (("at" : Str) = "cells") := by decide +kernel
theorem n3' : ¬ (("at" : Str) = "left") := by decide +kernel
theorem k1 {a b : Str} (h : ¬ a = b) : ¬ ((Sum.inr a : Key) = Sum.inr b) := fun z => h (Sum.inr.inj z)
theorem v_cells (c l : Addr) (k : Int) : valV (mkv c l k) (Sum.inr "cells" : Key) = some (.ref c) := by simp [valV, mkv, List.find?_cons]
theorem v_left (c l : Addr) (k : Int) : valV (mkv c l k) (Sum.inr "left" : Key) = some (.ref l) := by simp [valV, mkv, List.find?_cons, n1]
theorem v_at (c l : Addr) (k : Int) : valV (mkv c l k) (Sum.inr "at" : Key) = some (.int k) := by simp [valV, mkv, List.find?_cons, n2, n3]
theorem p_left (c l l' : Addr) (k : Int) : putK (mkv c l k) (Sum.inr "left" : Key) (.ref l') = mkv c l' k := by simp [putK, mkv, n1, n3']
theorem p_at (c l : Addr) (k k' : Int) : putK (mkv c l k) (Sum.inr "at" : Key) (.int k') = mkv c l k' := by simp [putK, mkv, n2, n3]
theorem mk_merge (c l : Addr) (k : Int) : mergeK [] (mkv c l k) = mkv c l k := by simp [mergeK, putK, mkv, n1, n2, n3]
structure MAt (H : Hp) (m c l : Addr) (k : Int) : Prop where
  hm : H m = some (.dK (mkv c l k))
  hc : ∃ cs : List Int, H c = some (.lst (cs.map V.int)) ∧ cs.length ≤ 1000
  hl : ∃ ls : List Int, H l = some (.lst (ls.map V.int)) ∧ ls.length ≤ 1000
  ne : c ≠ l
  k0 : 0 ≤ k
  k1 : k ≤ 1000000
/-- a drawn number from 0 to n - 1; only the dict and its list of great cells have changed -/
def spNext : Sp := fun vs H Q _ => ∃ (m c l : Addr) (k n : Int), vs = [.ref m, .int n] ∧ MAt H m c l k ∧ 0 < n ∧ n < 1000000 ∧ k < 1000000 ∧
  ∀ (r : Int) (H' : Hp) (l' : Addr) (k' : Int), 0 ≤ r → r < n → k' ≤ k + 1 → MAt H' m c l' k' → (l' = l ∨ H l' = none) → (∀ b o, H b = some o → b ≠ m → b ≠ l → H' b = some o) → Q (.int r) H'
/-- the beginning -/
def spBegun (K : PySem.W.Frag) : Sp := fun vs H Q _ => ∃ (a : Addr) (ns : List Int), vs = [.ref a] ∧ SqL K H a (ns.map V.int) ∧ ns.length ≤ 1000 ∧
  ∀ (m c l : Addr) (H' : Hp), MAt H' m c l 0 → H m = none → H c = none → H l = none → Same H H' → Q (.ref m) H'
structure TxtD (mg : Str → Option Value) : Prop where
  list : mg "list" = none
  int : mg "int" = none
  len : mg "len" = none
theorem same_upd {H : Hp} {p : Addr} {o : HO} (h : H p = none) : Same H (upd H p o) := fun b u e => by
  rw [upd_ne (ne_of_none e h)]
  exact e
theorem MAt.same {H H' : Hp} {m c l : Addr} {k : Int} (M : MAt H m c l k) (s : Same H H') : MAt H' m c l k := by
  obtain ⟨h1, ⟨cs, h2, h3⟩, ⟨ls, h4, h5⟩, h6, h7, h8⟩ := M
  exact ⟨s _ _ h1, ⟨cs, s _ _ h2, h3⟩, ⟨ls, s _ _ h4, h5⟩, h6, h7, h8⟩
theorem MAt.set {H : Hp} {m c l : Addr} {k : Int} {ls : List Int} (M : MAt H m c l k) (hz : ls.length ≤ 1000) : MAt (upd H l (.lst (ls.map V.int))) m c l k := by
  obtain ⟨h1, ⟨cs, h2, h3⟩, ⟨ls0, h4, h5⟩, h6, h7, h8⟩ := M
  have ml : m ≠ l := ne_of h1 h4 (fun z => by cases z)
  exact ⟨by rw [upd_ne ml]; exact h1, ⟨cs, by rw [upd_ne h6]; exact h2, h3⟩, ⟨ls, upd_same, hz⟩, h6, h7, h8⟩
/-- another list of great cells -/
theorem MAt.turn {H : Hp} {m c l p : Addr} {k : Int} {ls : List Int} (M : MAt H m c l k) (hp : H p = none) (hz : ls.length ≤ 1000) : MAt (upd (upd H p (.lst (ls.map V.int))) m (.dK (mkv c p k))) m c p k := by
  obtain ⟨h1, ⟨cs, h2, h3⟩, ⟨ls0, h4, h5⟩, h6, h7, h8⟩ := M
  have mp : p ≠ m := (ne_of_none h1 hp).symm
  have cp : c ≠ p := ne_of_none h2 hp
  have cm : c ≠ m := ne_of h2 h1 (fun z => by cases z)
  exact ⟨upd_same, ⟨cs, by rw [upd_ne cm, upd_ne cp]; exact h2, h3⟩, ⟨ls, by rw [upd_ne mp]; exact upd_same, hz⟩, cp, h7, h8⟩
/-- another counter -/
theorem MAt.count {H : Hp} {m c l : Addr} {k k' : Int} (M : MAt H m c l k) (h0 : 0 ≤ k') (h1' : k' ≤ 1000000) : MAt (upd H m (.dK (mkv c l k'))) m c l k' := by
  obtain ⟨h1, ⟨cs, h2, h3⟩, ⟨ls0, h4, h5⟩, h6, h7, h8⟩ := M
  have lm : l ≠ m := ne_of h4 h1 (fun z => by cases z)
  have cm : c ≠ m := ne_of h2 h1 (fun z => by cases z)
  exact ⟨upd_same, ⟨cs, by rw [upd_ne cm]; exact h2, h3⟩, ⟨ls0, by rw [upd_ne lm]; exact h4, h5⟩, h6, h0, h1'⟩
section
variable {K : PySem.W.Frag} {σ : St} {H : Hp} {m c l : Addr} {k : Int}
theorem rd_left {Q : VK} (h0 : σ[0]? = some (some (.ref m))) (M : MAt H m c l k) (q : Q (.ref l) H) : tDGet (tVar 0) (tC (.str "left")) σ H Q := by
  have z : DGet H m (.str "left") (valV (mkv c l k) (Sum.inr "left" : Key)) := DGet.k (k := Sum.inr "left") M.hm
  rw [v_left] at z
  exact ⟨_, h0, m, _, rfl, z, q⟩
theorem rd_cells {Q : VK} (h0 : σ[0]? = some (some (.ref m))) (M : MAt H m c l k) (q : Q (.ref c) H) : tDGet (tVar 0) (tC (.str "cells")) σ H Q := by
  have z : DGet H m (.str "cells") (valV (mkv c l k) (Sum.inr "cells" : Key)) := DGet.k (k := Sum.inr "cells") M.hm
  rw [v_cells] at z
  exact ⟨_, h0, m, _, rfl, z, q⟩
theorem rd_at {Q : VK} (h0 : σ[0]? = some (some (.ref m))) (M : MAt H m c l k) (q : Q (.int k) H) : tDGet (tVar 0) (tC (.str "at")) σ H Q := by
  have z : DGet H m (.str "at") (valV (mkv c l k) (Sum.inr "at" : Key)) := DGet.k (k := Sum.inr "at") M.hm
  rw [v_at] at z
  exact ⟨_, h0, m, _, rfl, z, q⟩
/-- a list of ints against the empty one -/
theorem ne_empty {Q : Bool → Hp → Prop} {a : Addr} {ls : List Int} (hl : H a = some (.lst (ls.map V.int))) (q : ∀ p, H p = none → Q (!ls.isEmpty) (upd H p (.lst []))) :
    tLst tNil σ H fun y H2 => rNeD K (.ref a) y H2 fun x H' => ∃ k, x = .bl k ∧ Q k H' := by
  refine ⟨by decide, fun p hp => ⟨.list (ls.map PyData.int), .list [], dp_list (same_upd hp _ _ hl), .lst (SqL.of upd_same) .nil, shaped_ints ls, shaped_ints [], _, rfl, ?_⟩⟩
  rw [eqv_nil]
  exact q p hp
theorem cut_one (ls : List Int) : cutV (ls.map V.int) (some 1) none = (ls.drop 1).map V.int := by
  unfold cutV
  have e1 : HT.sIx (ls.map V.int).length 0 (some 1) = min 1 (ls.map V.int).length := HT.sIx_nat _ _ 1
  rw [e1, HT.sIx_none]
  cases ls with
  | nil => rfl
  | cons x r =>
    have e2 : min 1 ((x :: r).map V.int).length = 1 := by simp
    rw [e2]
    show List.take ((x :: r).map V.int).length.pred (r.map V.int) = r.map V.int
    exact List.take_of_length_le (by simp)
end
theorem byAll {P : Int → Prop} {G : Prop} (a : (∀ x, P x) → G) (b : ∀ x, P x) : G := a b
theorem iteF' {b : Bool} {A B : Prop} (h : b = false) (q : B) : if b = true then A else B := by
  rw [h]
  exact iteF q
theorem iteT' {b : Bool} {A B : Prop} (h : b = true) (q : A) : if b = true then A else B := by
  rw [h]
  exact iteT q
theorem seq_while {tc : TT} {tb u : TS} {D : Ends} {σ : St} {H : Hp} (W : Nat → Hp → Prop) (R : Hp → Prop) {j0 : Nat} (h0 : W j0 H) (hr : ∀ H2, R H2 → u D σ H2)
    (turn : (∀ H2, R H2 → u D σ H2) → ∀ j H1, W j H1 → tc σ H1 fun b H2 => if b = true then
      ∃ N : St → Hp → Prop, (∀ σ' H', N σ' H' → ∃ j', j' < j ∧ (σ' = σ ∧ W j' H')) ∧ tb { nx := N, rt := D.rt, bk := u D, ct := N } σ H2 else u D σ H2) :
    tSeq (tWhile tc tb) u D σ H := by
  refine ⟨fun j σ' H' => σ' = σ ∧ W j H', ⟨j0, rfl, h0⟩, ?_⟩
  rintro j σ' H1 ⟨rfl, w⟩
  exact turn hr j H1 w
section
variable {P : Program} {w : World} {K : PySem.W.Frag} {mg : Str → Option Value} {base : Heap}
theorem scN : FnScope ["m", "total", "rest", "k", "cell", "mixed"] ["m", "total"] (defScope sNext) := ⟨rfl, rfl, rfl, by decide +kernel, rfl, by decide +kernel, by decide +kernel⟩
theorem ok_next {f : Addr} {fd : FuncData} (F : Fun K "_law_next" "_law_next" sNext f fd) (T : TxtD mg) : FnOk P w K mg base CX0 1 f fd ["m", "total"] spNext := by
  refine F.ok scN (fun vs H Q E h => ?_) (fun cdv A outer s H vs Q E hr h => ?_)
  · obtain ⟨m, c, l, k, n, rfl, _⟩ := h
    rfl
  · obtain ⟨m, c, l, k, n, rfl, M, n0, n1, kk, q⟩ := h
    have hu := hu_of hr
    have hu2 := hr.units
    refine ⟨_, pss_cons (ps_while PassesOwn.never
        (pw_and (pt_cmpR (op_neD hu2) (pe_dget hu (pv 0) pe_str (fun _ _ => rfl)) (pe_lst pa_nil) (nomark _))
          (pw_and1 (pt_cmpR op_eq (pe_ix ix_list (pe_dget hu (pv 0) pe_str (fun _ _ => rfl)) pe_int (fun _ _ => rfl)) pe_int (nomark _)))).pt
        (pss_one (ps_dput hu (pv 0) pe_str (pe_slice sl_list (pe_dget hu (pv 0) pe_str (fun _ _ => rfl)) (po_some pe_int) po_none) rfl)))
      (pss_cons (ps_if (pt_cmpR (op_neD hu2) (pe_dget hu (pv 0) pe_str (fun _ _ => rfl)) (pe_lst pa_nil) (nomark _))
        (pss_cons (ps_set (i := 2) scN.nd rfl (Or.inl rfl) (pe_callTy call_int1 (by rfl) T.int (by decide +kernel) (pa_cons (pe_ix ix_list (pe_dget hu (pv 0) pe_str (fun _ _ => rfl)) pe_int (fun _ _ => rfl)) pa_nil)))
        (pss_cons (ps_asg (pe_op op_fdiv (pv 2) (pv 1)) (pg_sub (pe_dget hu (pv 0) pe_str (fun _ _ => rfl)) pe_int set_list))
        (pss_one (ps_ret (pe_op op_mod (pv 2) (pv 1)))))) pss_nil)
      (pss_cons (ps_set (i := 3) scN.nd rfl (Or.inl rfl) (pe_op op_add (pe_dget hu (pv 0) pe_str (fun _ _ => rfl)) pe_int))
      (pss_cons (ps_dput hu (pv 0) pe_str (pv 3) rfl)
      (pss_cons (ps_set (i := 4) scN.nd rfl (Or.inl rfl) (pe_ifExp (pt_cmpR (op_neD hu2) (pe_dget hu (pv 0) pe_str (fun _ _ => rfl)) (pe_lst pa_nil) (nomark _))
        (pe_ix ix_list (pe_dget hu (pv 0) pe_str (fun _ _ => rfl))
          (pe_op op_mod (pe_callTy call_int1 (by rfl) T.int (by decide +kernel) (pa_cons (pv 3) pa_nil)) (pe_callB call_len_seq (by rfl) T.len PySem.boot_len (pa_cons (pe_dget hu (pv 0) pe_str (fun _ _ => rfl)) pa_nil))) (fun _ _ => rfl))
        pe_int))
      (pss_cons (ps_set (i := 5) scN.nd rfl (Or.inl rfl) (pe_op op_mul (pe_callTy call_int1 (by rfl) T.int (by decide +kernel) (pa_cons
        (pe_op op_add (pe_op op_add (pe_op op_mod (pe_callTy call_int1 (by rfl) T.int (by decide +kernel) (pa_cons (pv 4) pa_nil)) pe_int) (pe_op op_mul pe_int (pv 3))) (pe_op op_mul (pe_op op_mul pe_int (pv 3)) (pv 3))) pa_nil)) pe_int))
      (pss_cons (ps_set (i := 5) scN.nd rfl (Or.inl rfl) (pe_op op_mul (pe_callTy call_int1 (by rfl) T.int (by decide +kernel) (pa_cons
        (pe_op op_add (pe_op op_mod (pe_callTy call_int1 (by rfl) T.int (by decide +kernel) (pa_cons (pv 5) pa_nil)) pe_int) (pe_op op_mul pe_int (pv 3))) pa_nil)) pe_int))
      (pss_one (ps_ret (pe_op op_mod (pe_callTy call_int1 (by rfl) T.int (by decide +kernel) (pa_cons
        (pe_op op_fdiv (pe_op op_mod (pe_callTy call_int1 (by rfl) T.int (by decide +kernel) (pa_cons (pv 5) pa_nil)) pe_int) pe_int) pa_nil)) (pv 1)))))))))), ?_⟩
    obtain ⟨ls0, hl0, ll0⟩ := id M.hl
    refine seq_while (fun j H1 => ∃ (l1 : Addr) (ls : List Int), MAt H1 m c l1 k ∧ H1 l1 = some (.lst (ls.map V.int)) ∧ ls.length = j ∧ (l1 = l ∨ H l1 = none) ∧ (∀ b o, H b = some o → b ≠ m → b ≠ l → H1 b = some o) ∧ ∃ o, H1 l = some o)
      (fun H1 => ∃ (l1 : Addr) (ls : List Int), MAt H1 m c l1 k ∧ H1 l1 = some (.lst (ls.map V.int)) ∧ (l1 = l ∨ H l1 = none) ∧ (∀ b o, H b = some o → b ≠ m → b ≠ l → H1 b = some o))
      ⟨l, ls0, M, hl0, rfl, .inl rfl, fun b o e _ _ => e, _, hl0⟩ ?_ ?_
    · rintro H1 ⟨l1, ls, M1, hl, fl, kp⟩
      refine rd_left rfl M1 (ne_empty hl fun p hp => ?_)
      have M2 := MAt.same M1 (same_upd (o := .lst []) hp)
      have hl2 : upd H1 p (.lst []) l1 = some (.lst (ls.map V.int)) := same_upd hp _ _ hl
      cases ls with
      | cons x r =>
        refine iteT' rfl ?_
        refine rd_left rfl M2 ?_
        refine ⟨l1, _, 0, .int x, rfl, rfl, SqL.of hl2, atI_nat (j := 0) rfl, .inl ⟨x, rfl, ?_⟩⟩
        refine ⟨_, rfl, _, rfl, x, n, rfl, rfl, ⟨n0, by omega⟩, ?_⟩
        refine rd_left rfl M2 ?_
        refine ⟨l1, _, 0, 0, rfl, rfl, hl2, by simp [ixN], ?_⟩
        refine ⟨_, rfl, _, rfl, x, n, rfl, rfl, n0, ?_⟩
        show Q (.int (x % n)) _
        have hz : ((x / n) :: r).length ≤ 1000 := by
          obtain ⟨ls', e1, e2⟩ := M2.hl
          rw [hl2] at e1
          have e3 := congrArg List.length (HO.lst.inj (Option.some.inj e1))
          simp only [List.length_map] at e3
          rw [List.length_cons] at e3 ⊢
          omega
        refine q (x % n) _ l1 k (Int.emod_nonneg _ (by omega)) (Int.emod_lt_of_pos _ n0) (by omega) (M2.set hz) fl fun b o e h1 h2 => ?_
        have h3 : b ≠ l1 := by
          rcases fl with z | z
          · rw [z]
            exact h2
          · exact ne_of_none e z
        rw [upd_ne h3]
        exact same_upd hp _ _ (kp b o e h1 h2)
      | nil =>
        refine iteF' rfl ?_
        refine rd_at rfl M2 ⟨k, 1, rfl, rfl, ?_⟩
        refine ⟨_, rfl, _, rfl, m, _, rfl, DPut.k (k := Sum.inr "at") M2.hm (small1000 (by show 3 ≤ 1000; decide)), ?_⟩
        rw [p_at]
        have M3 := M2.count (k' := k + 1) (by have := M2.k0; omega) (by omega)
        obtain ⟨cs, hc, lc⟩ := id M3.hc
        have k0 := M.k0
        have kp3 : ∀ b o, H b = some o → b ≠ m → b ≠ l → upd (upd H1 p (.lst [])) m (.dK (mkv c l1 (k + 1))) b = some o := fun b o e h1 h2 => by
          rw [upd_ne h1]
          exact same_upd hp _ _ (kp b o e h1 h2)
        refine rd_cells rfl M3 (ne_empty hc fun p3 hp3 => ?_)
        have M4 := MAt.same M3 (same_upd (o := .lst []) hp3)
        have hc4 := same_upd (o := .lst []) hp3 _ _ hc
        have kp4 : ∀ b o, H b = some o → b ≠ m → b ≠ l → upd (upd (upd H1 p (.lst [])) m (.dK (mkv c l1 (k + 1)))) p3 (.lst []) b = some o := fun b o e h1 h2 => same_upd hp3 _ _ (kp3 b o e h1 h2)
        apply byAll
        case a =>
          intro fin
          by_cases he : cs.isEmpty = true
          · refine iteF' (by rw [he]; rfl) ?_
            generalize (3 : Int) = x
            exact fin x
          · refine iteT' (by simpa using he) ?_
            refine rd_cells rfl M4 ?_
            have ne0 : 0 < cs.length := List.length_pos_iff.mpr (fun z => he (by rw [z]; rfl))
            have pos : (0 : Int) < ((cs.map V.int).length : Nat) := by
              simp only [List.length_map]
              omega
            refine ⟨_, rfl, .inl ⟨k + 1, rfl, ?_⟩⟩
            refine rd_cells rfl M4 ?_
            refine ⟨c, _, rfl, .inl (SqL.of hc4), k + 1, _, rfl, rfl, pos, ?_⟩
            have i0 := Int.emod_nonneg (k + 1) (Int.ne_of_gt pos)
            have i1 := Int.emod_lt_of_pos (k + 1) pos
            obtain ⟨j, hj⟩ := Int.eq_ofNat_of_zero_le i0
            have jl : j < cs.length := by
              simp only [List.length_map] at i1 hj
              omega
            obtain ⟨x, hx⟩ : ∃ x : Int, cs[j]? = some x := ⟨cs[j], List.getElem?_eq_getElem jl⟩
            refine ⟨c, _, _, V.int x, rfl, rfl, SqL.of hc4, ?_, ?_⟩
            · rw [hj]
              refine atI_nat ?_
              rw [List.getElem?_map, hx]
              rfl
            · exact fin x
        case b =>
          intro x
          have k2 : -(2 ^ 64) < k + 1 ∧ k + 1 < 2 ^ 64 := ⟨by omega, by omega⟩
          refine ⟨_, rfl, .inl ⟨x, rfl, _, _, rfl, rfl, (by show (0 : Int) < 2147483629; decide), _, rfl, _, _, rfl, rfl, .inl ⟨by decide, by decide⟩, _, _, rfl, rfl, _, rfl, _, _, rfl, rfl, .inl ⟨by decide, by decide⟩,
            _, rfl, _, _, rfl, rfl, .inr k2, _, _, rfl, rfl, .inl ⟨_, rfl, _, _, rfl, rfl, .inr ⟨by decide, by decide⟩, ?_⟩⟩⟩
          refine ⟨_, rfl, .inl ⟨_, rfl, _, _, rfl, rfl, (by show (0 : Int) < 2147483647; decide), _, rfl, _, _, rfl, rfl, .inl ⟨by decide, by decide⟩, _, _, rfl, rfl, .inl ⟨_, rfl, _, _, rfl, rfl, .inr ⟨by decide, by decide⟩, ?_⟩⟩⟩
          refine ⟨_, rfl, .inl ⟨_, rfl, _, _, rfl, rfl, (by show (0 : Int) < 2147483587; decide), _, _, rfl, rfl, ⟨by decide, by decide⟩, .inl ⟨_, rfl, _, rfl, _, _, rfl, rfl, n0, ?_⟩⟩⟩
          exact q _ _ l1 (k + 1) (Int.emod_nonneg _ (by omega)) (Int.emod_lt_of_pos _ n0) (by omega) M4 fl kp4
    · rintro out j H1 ⟨l1, ls, M1, hl, lj, fl, kp, lo⟩
      refine rd_left rfl M1 (ne_empty hl fun p hp => ?_)
      have M2 := MAt.same M1 (same_upd (o := .lst []) hp)
      have hl2 : upd H1 p (.lst []) l1 = some (.lst (ls.map V.int)) := same_upd hp _ _ hl
      have kp2 : ∀ b o, H b = some o → b ≠ m → b ≠ l → upd H1 p (.lst []) b = some o := fun b o e h1 h2 => same_upd hp _ _ (kp b o e h1 h2)
      have lo2 : ∃ o, upd H1 p (.lst []) l = some o := lo.elim fun o e => ⟨o, same_upd hp _ _ e⟩
      cases ls with
      | nil =>
        refine iteF' rfl (iteF' rfl ?_)
        exact out _ ⟨l1, [], M2, hl2, fl, kp2⟩
      | cons x r =>
        refine iteT' rfl (rd_left rfl M2 ⟨l1, _, 0, .int x, rfl, rfl, SqL.of hl2, atI_nat (j := 0) rfl, rfl, _, rfl, ?_⟩)
        refine ite2 (fun z => ?_) (fun z => ?_)
        · refine ⟨_, fun _ _ z => z, ?_⟩
          refine rd_left rfl M2 ⟨1, rfl, l1, _, rfl, SqL.of hl2, fun p2 hp2 => ?_⟩
          have M3 : MAt (upd (upd H1 p (.lst [])) p2 (.lst (cutV ((x :: r).map V.int) (some 1) none))) m c l1 k := MAt.same M2 (same_upd hp2)
          refine ⟨_, rfl, m, _, rfl, DPut.k (k := Sum.inr "left") M3.hm (small1000 (by show 3 ≤ 1000; decide)), ?_⟩
          rw [p_left, cut_one]
          have hz : ((x :: r).drop 1).length ≤ 1000 := by
            obtain ⟨ls', e1, e2⟩ := M2.hl
            rw [hl2] at e1
            have e3 := congrArg List.length (HO.lst.inj (Option.some.inj e1))
            simp only [List.length_map] at e3
            rw [List.length_cons] at e3
            simp only [List.drop_succ_cons, List.drop_zero]
            omega
          have mp : p2 ≠ m := (ne_of_none M2.hm hp2).symm
          refine ⟨r.length, by rw [← lj]; simp, rfl, p2, r, M2.turn hp2 hz, by rw [upd_ne mp]; exact upd_same, rfl, .inr ?_, fun b o e h1 h2 => ?_, ?_⟩
          · cases q0 : H p2 with
            | none => rfl
            | some o =>
              have a2 : p2 ≠ l := by
                obtain ⟨o, e⟩ := lo2
                exact (ne_of_none e hp2).symm
              rw [kp2 p2 o q0 mp a2] at hp2
              cases hp2
          · rw [upd_ne h1]
            exact same_upd hp2 _ _ (kp2 b o e h1 h2)
          · obtain ⟨o, e⟩ := lo2
            refine ⟨o, ?_⟩
            by_cases lm : l = m
            · subst lm
              rw [M.hm] at hl0
              cases hl0
            · rw [upd_ne lm]
              exact same_upd hp2 _ _ e
        · exact out _ ⟨l1, x :: r, M2, hl2, fl, kp2⟩
theorem scB : FnScope ["script", "cell"] ["script"] (defScope sBegun) := ⟨rfl, rfl, rfl, by decide +kernel, rfl, by decide +kernel, by decide +kernel⟩
theorem ok_begun {f : Addr} {fd : FuncData} (F : Fun K "_law_begun" "_law_begun" sBegun f fd) (T : TxtD mg) : FnOk P w K mg base CX0 1 f fd ["script"] (spBegun K) := by
  refine F.ok scB (fun vs H Q E h => ?_) (fun cdv A outer s H vs Q E hr h => ?_)
  · obtain ⟨a, ns, rfl, _⟩ := h
    rfl
  · obtain ⟨a, ns, rfl, hS, hl, q⟩ := h
    refine ⟨_, pss_one (ps_ret (pe_disp (pps_cons pe_str (pe_callTy call_list_of (by rfl) T.list (by decide +kernel) (pa_cons (pv 0) pa_nil))
      (pps_cons pe_str (pe_lc (own := [("cell", 1)]) (g := gName 1) rfl scB.nd (pi_list (pv 0)) (blkOk_by (N := ["script", "cell"]) (sc := defScope sBegun) (by decide +kernel))
        (fun _ _ _ _ _ => pg_name (i := 1) scB.nd rfl (Or.inl rfl)) (fun _ _ _ _ _ => pts_one (pt_cmpR op_ge (pv 1) (pe_op op_pow pe_int pe_int) (nomark _))) (fun _ _ _ _ _ => pv 1))
      (pps_cons pe_str pe_int pps_nil))) rfl rfl (by simp) (by decide))), ?_⟩
    intro m hm
    have s1 : Same H (upd H m (.dK [])) := same_upd hm
    refine ⟨_, rfl, a, ns.map V.int, rfl, .inl (s1.seq hS), fun c hc => ?_⟩
    have s2 := s1.trans (same_upd (o := .lst (ns.map V.int)) hc)
    refine ⟨_, rfl, a, rfl, ⟨_, s2.seq hS⟩, fun l hl0 => ?_⟩
    have mc : m ≠ c := ne_of_none upd_same hc
    have hm2 : upd (upd H m (.dK [])) c (.lst (ns.map V.int)) m = some (.dK []) := by
      rw [upd_ne mc]
      exact upd_same
    have ml : m ≠ l := ne_of_none hm2 hl0
    have cl : c ≠ l := ne_of_none (upd_same) hl0
    refine lc_list (K := K) (a := a) (xs := ns.map V.int) (fun i H' => ∃ acc : List Int, H' l = some (.lst (acc.map V.int)) ∧ acc.length ≤ i ∧ ∀ b o, upd (upd H m (.dK [])) c (.lst (ns.map V.int)) b = some o → H' b = some o)
      ⟨[], upd_same, Nat.le_refl _, fun b o e => same_upd hl0 _ _ e⟩ (fun i H' _ ⟨acc, _, _, k⟩ => Same.seq (s2.trans k) hS) ?_ ?_
    · rintro i x H' hi ⟨acc, ha, la, kp⟩
      obtain ⟨z, rfl⟩ : ∃ z, x = V.int z := by
        rw [List.getElem?_map] at hi
        cases e : ns[i]? with
        | none =>
          rw [e] at hi
          cases hi
        | some z =>
          rw [e] at hi
          exact ⟨z, (Option.some.inj hi).symm⟩
      have il : i < ns.length := by
        have := (List.getElem?_eq_some_iff.mp hi).1
        simpa using this
      refine ⟨rfl, _, rfl, 10, 18, rfl, rfl, ⟨by decide, by decide, by decide⟩, _, _, rfl, rfl, _, rfl, ?_⟩
      refine ite2 (fun _ => ⟨_, rfl, acc.map V.int, ha, ?_, acc ++ [z], ?_, ?_, fun b o e => ?_⟩) (fun _ => ⟨acc, ha, Nat.le_succ_of_le la, kp⟩)
      · rw [List.length_map]
        exact small1000 (by omega)
      · rw [List.map_append]
        exact upd_same
      · simp only [List.length_append, List.length_cons, List.length_nil]
        omega
      · rw [upd_ne (ne_of_none e hl0)]
        exact kp b o e
    · rintro H' ⟨acc, ha, la, kp⟩
      rw [List.length_map] at la
      refine ⟨kp _ _ hm2, mkv c l 0, rfl, (by show 3 ≤ 15; decide), ?_⟩
      rw [mk_merge]
      have lm : l ≠ m := ml.symm
      have cm : c ≠ m := mc.symm
      refine q m c l _ ⟨upd_same, ⟨ns, by rw [upd_ne cm]; exact kp _ _ upd_same, hl⟩, ⟨acc, by rw [upd_ne lm]; exact ha, by omega⟩, cl, by decide, by decide⟩ hm (s1.free hc) (s2.free hl0) fun b o e => ?_
      rw [upd_ne (ne_of_none e hm)]
      exact kp _ _ (s2 _ _ e)
end
end K34

set_option Elab.async false
set_option linter.all false
set_option maxRecDepth 100000
set_option maxHeartbeats 4000000
/-! is_number, is_piece, is_step: of what a framing holds. -/
namespace K34
open PySem L2 L2.EV
abbrev sNum : Stmt := top 15
abbrev sPc : Stmt := top 16
abbrev sStep : Stmt := top 17
def sgs : List Nat := sl ("abcdefghijklmnopqrstuvwxyz0123456789@" : Str)
theorem no59 : ¬ (59 ∈ sgs) := by decide +kernel
theorem semi : sl (";" : Str) = [59] := by decide +kernel
theorem semi1 : (";" : Str).length = 1 := by decide +kernel
/-- a piece; it ends a line if last -/
def Pc (p : Str) (last : Bool) : Prop := ∃ b : List Nat, sl p = b ++ (if last = true then [59] else []) ∧ b.length ≤ 7 ∧ (∀ c ∈ b, c ∈ sgs) ∧ (last = false → b ≠ [])
theorem len_sl (p : Str) : p.length = (sl p).length := by
  show p.cps.size = p.cps.toList.length
  simp
theorem pc_len {p : Str} {l : Bool} (h : Pc p l) : 1 ≤ p.length ∧ p.length ≤ 8 := by
  obtain ⟨b, e, h1, _, h2⟩ := h
  rw [len_sl, e, List.length_append]
  cases l with
  | true =>
    rw [if_pos rfl]
    simp only [List.length_cons, List.length_nil]
    omega
  | false =>
    have := List.length_pos_iff.mpr (h2 rfl)
    rw [if_neg (by simp)]
    simp only [List.length_nil]
    omega
theorem at_end {p : Str} : Builtin.Str.subAt p ";" (p.length - (";" : Str).length) = (((sl p).drop ((sl p).length - 1)).take 1 == [59]) := by
  rw [StrLaws.subAt_eq, semi1, len_sl]
  show (((sl p).drop _).take 1 == sl (";" : Str)) = _
  rw [semi]
theorem pc_last {p : Str} {l : Bool} (h : Pc p l) : (decide (0 + (";" : Str).length ≤ p.length) && Builtin.Str.subAt p ";" (p.length - (";" : Str).length)) = l := by
  have z := pc_len h
  rw [at_end]
  have d : decide (0 + (";" : Str).length ≤ p.length) = true := decide_eq_true (by rw [semi1]; omega)
  rw [d, Bool.true_and]
  obtain ⟨b, e, h1, hb, h2⟩ := h
  rw [e]
  cases l with
  | true =>
    rw [if_pos rfl]
    simp
  | false =>
    rw [if_neg (by simp), List.append_nil]
    obtain ⟨M, y, rfl⟩ := SrtO.snoc_of (l := b) (List.length_pos_iff.mpr (h2 rfl))
    have hy : y ∈ sgs := hb y (by simp)
    have ne : ¬ y = 59 := fun q => no59 (q ▸ hy)
    simp [ne]
theorem pc_ends {p : Str} {l : Bool} (h : Pc p l) : Txt.endswith p ";" = l := pc_last h
theorem pc_cut {p : Str} {l : Bool} (h : Pc p l) : ∀ c ∈ sl (Txt.removesuffix p ";"), c ∈ sgs := by
  have z := pc_last h
  rw [StrLaws.removesuffix_eq]
  rw [show (decide (0 + (";" : Str).length ≤ p.length) && Builtin.Str.subAt p ";" (p.length - (";" : Str).length)) = l from z]
  obtain ⟨b, e, h1, hb, h2⟩ := h
  intro c hc
  cases l with
  | true =>
    rw [if_pos rfl] at hc e
    rw [semi1, len_sl] at hc
    have e' : p.cps.toList = b ++ [59] := e
    simp only [e, e', List.drop_zero, List.length_append, List.length_cons, List.length_nil] at hc
    have : (b ++ [59]).take (b.length + (0 + 1) - 1 - 0) = b := by simp
    rw [this] at hc
    exact hb c (by simpa using hc)
  | false =>
    rw [if_neg (by simp)] at hc
    rw [e, if_neg (by simp), List.append_nil] at hc
    exact hb c hc
/-- is_number(n, many) -/
def spNum : Sp := fun vs H Q _ => ∃ n m : Int, vs = [.int n, .int m] ∧ Q (.bl (decide (0 ≤ n) && decide (n < m))) H
/-- is_piece(p), p a piece -/
def spPc : Sp := fun vs H Q _ => ∃ (p : Str) (l : Bool), vs = [.str p] ∧ Pc p l ∧ ∀ H', Same H H' → Q (.bl true) H'
/-- what a step is -/
def Stp (x : T3) : Prop := 0 ≤ x.1 ∧ x.1 < 6 ∧ Pc x.2.1 (decide (x.2.2 = 0)) ∧ 0 ≤ x.2.2 ∧ x.2.2 < 6
/-- a step at t -/
abbrev S3 (H : Hp) (t : Addr) (x : T3) : Prop := H t = some (.tup [.int x.1, .str x.2.1, .int x.2.2])
def spStep : Sp := fun vs H Q _ => ∃ (t : Addr) (x : T3), vs = [.ref t] ∧ S3 H t x ∧ Stp x ∧ ∀ H', Same H H' → Q (.bl true) H'
structure TxtF (mg : Str → Option Value) : Prop where
  isi : mg "isinstance" = none
  int : mg "int" = none
  bool : mg "bool" = none
  str : mg "str" = none
  tuple : mg "tuple" = none
  len : mg "len" = none
  all : mg "all" = none
  signs : ∃ t, mg "SIGNS" = some (.str "abcdefghijklmnopqrstuvwxyz0123456789@" t)
  mSigns : ∃ t, mg "MOST_SIGNS" = some (.int 8 t)
  many : ∃ t, mg "MANY_STANDINGS" = some (.int 6 t)
section
variable {P : Program} {w : World} {K : PySem.W.Frag} {mg : Str → Option Value} {base : Heap}
theorem scNum : FnScope ["thing", "many"] ["thing", "many"] (defScope sNum) := ⟨rfl, rfl, rfl, by decide +kernel, rfl, by decide +kernel, by decide +kernel⟩
theorem ok_num {f : Addr} {fd : FuncData} (F : Fun K "is_number" "is_number" sNum f fd) (T : TxtF mg) : FnOk P w K mg base CX0 1 f fd ["thing", "many"] spNum := by
  refine F.ok scNum (fun vs H Q E h => ?_) (fun cdv A outer s H vs Q E hr h => ?_)
  · obtain ⟨n, m, rfl, _⟩ := h
    rfl
  · obtain ⟨n, m, rfl, q⟩ := h
    refine ⟨_, pss_one (ps_ret (pe_and (pe_callB call_isi (by rfl) T.isi PyProof.Rows.boot_isinstance (pa_cons (pv 0) (pa_cons (pe_bltn (v := .ty "int") (by rfl) T.int (by decide +kernel) rfl) pa_nil)))
      (pe_and (pe_not (pe_callB call_isi (by rfl) T.isi PyProof.Rows.boot_isinstance (pa_cons (pv 0) (pa_cons (pe_bltn (v := .ty "bool") (by rfl) T.bool (by decide +kernel) rfl) pa_nil))))
        (pe_one (pe_chain op_le op_lt pe_int (pv 0) (pv 1)))))), ?_⟩
    refine ⟨_, rfl, .int n, .ty "int", .type "int", .type "int", true, rfl, .ty "int", .base (.int n), kit_ty (by decide +kernel), true, rfl, iteT ?_⟩
    refine ⟨_, rfl, .int n, .ty "bool", .type "int", .type "bool", false, rfl, .ty "bool", .base (.int n), kit_ty (by decide +kernel), false, rfl, true, rfl, iteT ?_⟩
    refine ⟨_, rfl, 0, n, rfl, rfl, _, rfl, ?_⟩
    refine ite2 (fun z => ?_) (fun z => ?_)
    · refine ⟨_, rfl, n, m, rfl, rfl, ?_⟩
      rw [z, Bool.true_and] at q
      exact q
    · rw [eq_false_of_ne_true z, Bool.false_and] at q
      exact q
theorem scPc : FnScope ["thing", "sign"] ["thing"] (defScope sPc) := ⟨rfl, rfl, rfl, by decide +kernel, rfl, by decide +kernel, by decide +kernel⟩
theorem ok_pc {f : Addr} {fd : FuncData} (F : Fun K "is_piece" "is_piece" sPc f fd) (T : TxtF mg) : FnOk P w K mg base CX0 1 f fd ["thing"] spPc := by
  refine F.ok scPc (fun vs H Q E h => ?_) (fun cdv A outer s H vs Q E hr h => ?_)
  · obtain ⟨p, l, rfl, _⟩ := h
    rfl
  · obtain ⟨p, l, rfl, hp, q⟩ := h
    obtain ⟨ts, eS⟩ := T.signs
    obtain ⟨tm, eM⟩ := T.mSigns
    refine ⟨_, pss_cons (ps_if (pw_or (pt_not (pt_val (pe_callB call_isi (by rfl) T.isi PyProof.Rows.boot_isinstance (pa_cons (pv 0) (pa_cons (pe_bltn (v := .ty "str") (by rfl) T.str (by decide +kernel) rfl) pa_nil)))))
        (pw_or1 (pt_not (pt_chain op_le op_le pe_int (pe_callB call_len_str (by rfl) T.len PySem.boot_len (pa_cons (pv 0) pa_nil)) (pe_glob (v := .int 8) (by rfl) eM ⟨_, rfl⟩))))).pt
        (pss_one (ps_ret pe_bl)) pss_nil)
      (pss_one (ps_ret (pe_callB (cr_all rfl) (by rfl) T.all (by decide +kernel) (pa_cons (pe_lc (own := [("sign", 1)]) (g := gName 1) rfl scPc.nd
        (pi_str (pe_m1 PySem.F.slot_str_removesuffix PySem.F.type_str_removesuffix mt_removesuffix (pv 0) pe_str)) (blkOk_by (N := ["thing", "sign"]) (sc := defScope sPc) (by decide +kernel))
        (fun _ _ _ _ _ => pg_name (i := 1) scPc.nd rfl (Or.inl rfl)) (fun _ _ _ _ _ => pts_nil) (fun _ _ _ _ _ => pe_cmpR op_in_sign (pv 1) (pe_glob (v := .str "abcdefghijklmnopqrstuvwxyz0123456789@") (by rfl) eS ⟨_, rfl⟩) (by rfl))) pa_nil)))), ?_⟩
    have z := pc_len hp
    refine ⟨_, rfl, .str p, .ty "str", .type "str", .type "str", true, rfl, .ty "str", .base (.str p), kit_ty (by decide +kernel), true, rfl, iteF ?_⟩
    refine ⟨.str p, rfl, p, rfl, by rw [sizeLine_eq]; omega, 1, p.length, rfl, rfl, _, rfl, iteT' (decide_eq_true (by omega)) ⟨p.length, 8, rfl, rfl, _, rfl, ?_⟩⟩
    refine iteF' (by rw [decide_eq_true (by omega)]; rfl) ?_
    refine ⟨_, rfl, ⟨p, rfl⟩, p, ";", rfl, rfl, by rw [sizeLine_eq]; omega, _, rfl, fun D hD => ?_⟩
    refine lc_it walk_str (fun i H' => H' D = some (.lst ((List.replicate i true).map V.bl)) ∧ ∀ b o, H b = some o → H' b = some o) ⟨upd_same, fun b o z => same_upd hD b o z⟩ (fun _ _ _ _ => trivial) ?_ ?_
    · rintro i x H1 H2 hi ⟨hl, kp⟩ ⟨rfl, c, hc, rfl⟩
      refine ⟨rfl, ⟨_, rfl, c, _, rfl, rfl, ?_⟩⟩
      have hm : c ∈ sgs := pc_cut hp c (List.mem_of_getElem? (by simpa using hc))
      refine ⟨_, hl, ?_, ?_, fun b o z => ?_⟩
      · rw [List.length_map, List.length_replicate, sizeLine_eq]
        have l1 := PyProof.Rows.len_removesuffix p ";"
        have l2 : (Txt.removesuffix p ";").cps.size = (Txt.removesuffix p ";").length := rfl
        omega
      · have e : decide (c ∈ ("abcdefghijklmnopqrstuvwxyz0123456789@" : Str).cps.toList) = true := decide_eq_true hm
        rw [e, List.replicate_succ', List.map_append]
        exact upd_same
      · rw [upd_ne (ne_of_none z hD)]
        exact kp b o z
    · rintro H1 ⟨hl, kp⟩
      refine ⟨D, _, rfl, SqL.of hl, ?_⟩
      rw [show (List.replicate (Txt.removesuffix p ";").cps.size true).all id = true by simp]
      exact q H1 kp
theorem scStep : FnScope ["thing", "start", "piece", "goal"] ["thing"] (defScope sStep) := ⟨rfl, rfl, rfl, by decide +kernel, rfl, by decide +kernel, by decide +kernel⟩
theorem ok_step {f fN fP : Addr} {fd fdN fdP : FuncData} (F : Fun K "is_step" "is_step" sStep f fd) (T : TxtF mg) (FN : Fun K "is_number" "is_number" sNum fN fdN) (bN : Binds K fdN ["thing", "many"] []) (mN : mg "is_number" = some (.ref fN))
    (FP : Fun K "is_piece" "is_piece" sPc fP fdP) (bP : Binds K fdP ["thing"] []) (mP : mg "is_piece" = some (.ref fP)) : FnOk P w K mg base CX0 2 f fd ["thing"] spStep := by
  have GN : FnOk P w K mg base CX0 1 fN fdN ["thing", "many"] spNum := ok_num FN T
  have GP : FnOk P w K mg base CX0 1 fP fdP ["thing"] spPc := ok_pc FP T
  refine F.ok scStep (fun vs H Q E h => ?_) (fun cdv A outer s H vs Q E hr h => ?_)
  · obtain ⟨t, x, rfl, _⟩ := h
    rfl
  · obtain ⟨t, x, rfl, e, hx, q⟩ := h
    obtain ⟨tm, eM⟩ := T.many
    refine ⟨_, pss_cons (ps_if (pw_or (pt_not (pt_val (pe_callB call_isi (by rfl) T.isi PyProof.Rows.boot_isinstance (pa_cons (pv 0) (pa_cons (pe_bltn (v := .ty "tuple") (by rfl) T.tuple (by decide +kernel) rfl) pa_nil)))))
        (pw_or1 (pt_cmpR op_ne (pe_callB call_len_seq (by rfl) T.len PySem.boot_len (pa_cons (pv 0) pa_nil)) pe_int (nomark _)))).pt
        (pss_one (ps_ret pe_bl)) pss_nil)
      (pss_cons (ps_asg (pv 0) (pg_tup rfl (pgs_cons (pg_name (i := 1) scStep.nd rfl (Or.inl rfl)) (pgs_cons (pg_name (i := 2) scStep.nd rfl (Or.inl rfl)) (pgs_cons (pg_name (i := 3) scStep.nd rfl (Or.inl rfl)) pgs_nil)))))
      (pss_cons (ps_if (pw_or (pt_not (pt_val (pe_call GN hr (by rfl) mN FN.kp bN .nil pass0 (pa_cons (pv 1) (pa_cons (pe_glob (v := .int 6) (by rfl) eM ⟨_, rfl⟩) pa_nil)))))
        (pw_or (pt_not (pt_val (pe_call GP hr (by rfl) mP FP.kp bP .nil pass0 (pa_cons (pv 2) pa_nil))))
          (pw_or1 (pt_not (pt_val (pe_call GN hr (by rfl) mN FN.kp bN .nil pass0 (pa_cons (pv 3) (pa_cons (pe_glob (v := .int 6) (by rfl) eM ⟨_, rfl⟩) pa_nil)))))))).pt
        (pss_one (ps_ret pe_bl)) pss_nil)
      (pss_one (ps_ret (pe_cmpR op_eq (pe_m1 PySem.F.slot_str_endswith PySem.F.type_str_endswith mt_endswith (pv 2) pe_str) (pe_cmpR op_eq (pv 3) pe_int (nomark _)) (nomark _)))))), ?_⟩
    obtain ⟨h0, h6, hp, g0, g6⟩ := hx
    refine ⟨_, rfl, .ref t, .ty "tuple", .type "tuple", .type "tuple", true, rfl, .ty "tuple", .base (.tup e), kit_ty (by decide +kernel), true, rfl, iteF ?_⟩
    refine ⟨_, rfl, t, _, rfl, .inr (SqT.of e), rfl, _, rfl, iteF ?_⟩
    refine ⟨_, rfl, t, _, rfl, SqT.of e, rfl, _, _, rfl, _, _, rfl, _, _, rfl, rfl, ?_⟩
    refine ⟨_, rfl, x.1, 6, rfl, _, rfl, ?_⟩
    refine iteF' (by rw [decide_eq_true h0, decide_eq_true h6]; rfl) ?_
    refine ⟨_, rfl, x.2.1, _, rfl, hp, fun H1 s1 => ⟨_, rfl, iteF ?_⟩⟩
    refine ⟨_, rfl, x.2.2, 6, rfl, _, rfl, ?_⟩
    refine iteF' (by rw [decide_eq_true g0, decide_eq_true g6]; rfl) ?_
    refine ⟨_, rfl, ⟨_, rfl⟩, x.2.1, _, rfl, rfl, ⟨_, rfl, rfl, rfl, ?_⟩⟩
    rw [pc_ends hp]
    have e1 : decide (V.int x.2.2 = V.int 0) = decide (x.2.2 = 0) := by
      rw [dec_int]
      by_cases z : x.2.2 = 0
      · rw [z]
        rfl
      · rw [decide_eq_false z]
        exact beq_eq_false_iff_ne.mpr z
    rw [e1, decide_eq_true rfl]
    exact q H1 s1
end
end K34

set_option Elab.async false
set_option linter.all false
set_option maxRecDepth 100000
set_option maxHeartbeats 4000000
/-! {elt for tg in iter if .. for tg1 in iter1 if ..}: a set of ints by a comprehension of two clauses. -/
namespace L2
namespace EV
open PySem PySem.Spec PyProof.Rows
/-- the comprehension itself -/
abbrev sc2 (elt t0 i0 t1 i1 : Expr) (f0 f1 : List Expr) (sc : Scope) (pos : Pos) : Expr := .SetComp elt [⟨t0, i0, f0, 0⟩, ⟨t1, i1, f1, 0⟩] sc pos
section
variable (elt t0 i0 t1 i1 : Expr) (f0 f1 : List Expr) (sc : Scope) (pos : Pos) (it acc : Value) (env : Env)
theorem turn_outer : compTurn (sc2 elt t0 i0 t1 i1 f0 f1 sc pos) 0 it acc env = (do
    standAt i0.pos
    match ← pyNext it with
    | none => pure (.done .next)
    | some u =>
      letOwnedTupleGo t0 it u
      assign t0 env u
      let mut go := true
      for c in f0 do
        if go then go ← isTrue c env (eval c env)
      if go then
        let xs ← eval i1 env
        standAt i1.pos
        let xs ← foldedSetIterable i1 env xs
        let _ ← runOwn (.compStart (sc2 elt t0 i0 t1 i1 f0 f1 sc pos) 1 (← holding [xs] (pyIter xs)) acc env) env
      again (.compLoop (sc2 elt t0 i0 t1 i1 f0 f1 sc pos) 0 it acc env)) := by rfl
theorem turn_inner : compTurn (sc2 elt t0 i0 t1 i1 f0 f1 sc pos) 1 it acc env = (do
    standAt i1.pos
    match ← pyNext it with
    | none => pure (.done .next)
    | some u =>
      letOwnedTupleGo t1 it u
      assign t1 env u
      let mut go := true
      for c in f1 do
        if go then go ← isTrue c env (eval c env)
      if go then
        (do let y ← eval elt env; standAt elt.pos; let _ ← call (.builtin "set.add") [acc, y])
      again (.compLoop (sc2 elt t0 i0 t1 i1 f0 f1 sc pos) 1 it acc env)) := by rfl
end
section
variable {prog : Program} {w : World} {A : Around} {R : Result → Shared → Prop} {s : Shared} {elt t0 i0 t1 i1 : Expr} {f0 f1 : List Expr} {sc : Scope} {pos : Pos} {it acc : Value} {env : Env}
/-- what is wanted of an error in the block -/
abbrev Erx (prog : Program) (w : World) (A : Around) (env : Env) (R : Result → Shared → Prop) : Value → Shared → Prop := notedBy (model prog w) A env fun e s' => R (.error e) s'
/-- the tests of a clause -/
abbrev tests (fs : List Expr) (env : Env) : Sem Bool := forIn fs true fun c r => if r = true then do let ok ← isTrue c env (eval c env); pure (ForInStep.yield ok) else pure (ForInStep.yield r)
theorem loop_outer (fold : ∀ x, foldedSetIterable i1 env x = pure x) (J : Nat → Shared → Prop)
    (turn : ∀ n s, J n s → wpAny (model prog w) A (pyNext it) (fun r s1 => match r with
      | none => R (.ok .next) s1
      | some u => wpAny (model prog w) A (letOwnedTupleGo t0 it u) (fun _ s2 => wpAny (model prog w) A (assign t0 env u) (fun _ s3 => wpAny (model prog w) A (tests f0 env) (fun ok s4 =>
          if ok = true then wpAny (model prog w) A (eval i1 env) (fun xs s5 => wpAny (model prog w) A (pyIter xs) (fun itv s6 =>
            codeAny (model prog w) A (.compStart (sc2 elt t0 i0 t1 i1 f0 f1 sc pos) 1 itv acc env) (fun r s' => (∃ fl, r = .ok fl) ∧ ∃ m, m < n ∧ J m s') s6) (Erx prog w A env R) s5) (Erx prog w A env R) s4
          else ∃ m, m < n ∧ J m s4) (Erx prog w A env R) s3) (Erx prog w A env R) s2) (Erx prog w A env R) s1) (Erx prog w A env R) s) (n : Nat) (h : J n s) :
    codeAny (model prog w) A (.compLoop (sc2 elt t0 i0 t1 i1 f0 f1 sc pos) 0 it acc env) R s := by
  refine codeAny_loop rfl J (fun n s hJ => ?_) n h
  show wpAny _ A ((compTurn (sc2 elt t0 i0 t1 i1 f0 f1 sc pos) 0 it acc env).onRaise (fun x => do noteFrame x env; theTreesLotGoes x)) _ _ s
  refine wpAny_noted ?_
  rw [turn_outer]
  refine wpAny_bind (wpAny_standAt (wpAny_bind (wpAny_mono (turn n s hJ) (fun r s1 q1 => ?_) fun _ _ z => z)))
  cases r with
  | none => exact wpAny_pure q1
  | some u =>
    refine wpAny_bind (wpAny_mono q1 (fun _ s2 q2 => ?_) fun _ _ z => z)
    refine wpAny_bind (wpAny_mono q2 (fun _ s3 q3 => ?_) fun _ _ z => z)
    refine wpAny_bind (wpAny_mono q3 (fun ok s4 q4 => ?_) fun _ _ z => z)
    cases ok with
    | false => exact wpAny_pure ⟨rfl, q4⟩
    | true =>
      refine wpAny_bind (wpAny_mono q4 (fun xs s5 q5 => ?_) fun _ _ z => z)
      refine wpAny_bind (wpAny_standAt (wpAny_bind (wpAny_of_eq (fold xs) ?_)))
      refine wpAny_bind (wpAny_holding (wpAny_mono q5 (fun itv s6 q6 => ?_) fun _ _ z => z))
      refine wpAny_bind (wpAny_runOwn ?_)
      rw [Around.mark_none]
      refine codeAny_mono q6 fun r s' hr => ?_
      obtain ⟨⟨fl, rfl⟩, hm⟩ := hr
      first
        | exact wpAny_pure ⟨rfl, hm⟩
        | exact wpAny_bind (wpAny_pure (wpAny_pure ⟨rfl, hm⟩))
theorem loop_inner (J : Nat → Shared → Prop)
    (turn : ∀ n s, J n s → wpAny (model prog w) A (pyNext it) (fun r s1 => match r with
      | none => R (.ok .next) s1
      | some u => wpAny (model prog w) A (letOwnedTupleGo t1 it u) (fun _ s2 => wpAny (model prog w) A (assign t1 env u) (fun _ s3 => wpAny (model prog w) A (tests f1 env) (fun ok s4 =>
          if ok = true then wpAny (model prog w) A (eval elt env) (fun y s5 => wpAny (model prog w) A (call (.builtin "set.add") [acc, y]) (fun _ s6 => ∃ m, m < n ∧ J m s6) (Erx prog w A env R) s5) (Erx prog w A env R) s4
          else ∃ m, m < n ∧ J m s4) (Erx prog w A env R) s3) (Erx prog w A env R) s2) (Erx prog w A env R) s1) (Erx prog w A env R) s) (n : Nat) (h : J n s) :
    codeAny (model prog w) A (.compLoop (sc2 elt t0 i0 t1 i1 f0 f1 sc pos) 1 it acc env) R s := by
  refine codeAny_loop rfl J (fun n s hJ => ?_) n h
  show wpAny _ A ((compTurn (sc2 elt t0 i0 t1 i1 f0 f1 sc pos) 1 it acc env).onRaise (fun x => do noteFrame x env; theTreesLotGoes x)) _ _ s
  refine wpAny_noted ?_
  rw [turn_inner]
  refine wpAny_bind (wpAny_standAt (wpAny_bind (wpAny_mono (turn n s hJ) (fun r s1 q1 => ?_) fun _ _ z => z)))
  cases r with
  | none => exact wpAny_pure q1
  | some u =>
    refine wpAny_bind (wpAny_mono q1 (fun _ s2 q2 => ?_) fun _ _ z => z)
    refine wpAny_bind (wpAny_mono q2 (fun _ s3 q3 => ?_) fun _ _ z => z)
    refine wpAny_bind (wpAny_mono q3 (fun ok s4 q4 => ?_) fun _ _ z => z)
    cases ok with
    | false => exact wpAny_pure ⟨rfl, q4⟩
    | true =>
      refine wpAny_bind (wpAny_bind (wpAny_mono q4 (fun y s5 q5 => ?_) fun _ _ z => z))
      refine wpAny_bind (wpAny_standAt (wpAny_bind (wpAny_mono q5 (fun _ s6 q6 => ?_) fun _ _ z => z)))
      exact wpAny_pure (wpAny_pure ⟨rfl, q6⟩)
/-- a clause's start: its walk is begun already, or begins here -/
theorem start_inner (h0 : codeAny (model prog w) A (.compLoop (sc2 elt t0 i0 t1 i1 f0 f1 sc pos) 1 it acc env) R s)
    (h : wpAny (model prog w) A (pyIter it) (fun itv s' => codeAny (model prog w) A (.compLoop (sc2 elt t0 i0 t1 i1 f0 f1 sc pos) 1 itv acc env) R s') (Erx prog w A env R) s) :
    codeAny (model prog w) A (.compStart (sc2 elt t0 i0 t1 i1 f0 f1 sc pos) 1 it acc env) R s := by
  refine codeAny_of_tree ?_
  show wpAny _ _ ((compStart (sc2 elt t0 i0 t1 i1 f0 f1 sc pos) 1 it acc env).onRaise (fun x => do noteFrame x env; standAt theWindowsPlace)) _ _ s
  refine wpAny_notedAt ?_
  unfold compStart
  show wpAny _ _ (ask >>= _) _ _ s
  refine wpAny_bind (wpAny_askSetting (wpAny_ite ?_))
  split
  · first
      | exact wpAny_bind (wpAny_pure (wpAny_pure (And.intro rfl h0)))
      | exact wpAny_pure (And.intro rfl h0)
  · refine wpAny_bind (wpAny_rule ?_)
    show wpAny _ _ (standAt i1.pos >>= _) _ _ s
    exact wpAny_bind (wpAny_standAt (wpAny_bind (wpAny_mono h (fun itv s' q => wpAny_pure (And.intro rfl q)) fun _ _ z => z)))
end
/-- the set at D has got y -/
def addedS (w : World) (D : Addr) (y : V) (H : Hp) (N : Hp → Prop) : Prop := ∃ (k : Int) (S : Int → Bool) (n : Nat), y = .int k ∧ H D = some (SetO w D S n) ∧ n + 1 < scanBound ∧
  N (upd H D (SetO w D (fun j => S j || decide (j = k)) (if S k = true then n else n + 1)))
/-- the reading: D the new set; behind the first clause's store and tests the second walk, from which Nx is reached -/
def tSc2 (w : World) (wi : TI) (g : TG) (tt : TT) (wi1 : TI) (g1 : TG) (tt1 : TT) (te : TE) (vs vs1 : List Nat) : TE := fun σ H Q => wi σ H fun J H1 => ∀ D, H1 D = none →
  ∃ W : Nat → Nat → Hp → Prop, (∃ m, W 0 m (upd H1 D (SetO w D (fun _ => false) 0))) ∧ ∀ i m H, W i m H →
    (J.stop i H ∧ Q (.ref D) H) ∨ (J.go i H ∧ ∃ Nx : Hp → Prop, (∀ H', Nx H' → ∃ m', m' < m ∧ W (i + 1) m' H') ∧ ∀ x H', J.yld i H x H' → g x (wipe σ vs) H' fun σ2 H2 => wipe σ2 vs = wipe σ vs ∧ tt σ2 H2 fun b H3 =>
      if b = true then wi1 σ2 H3 fun J1 H4 => ∃ W1 : Nat → Nat → Hp → Prop, (∃ m, W1 0 m H4) ∧ ∀ j k H, W1 j k H →
        (J1.stop j H ∧ Nx H) ∨ (J1.go j H ∧ ∃ Nx1 : Hp → Prop, (∀ H', Nx1 H' → ∃ k', k' < k ∧ W1 (j + 1) k' H') ∧ ∀ x H', J1.yld j H x H' → g1 x (wipe σ2 vs1) H' fun σ3 H5 => wipe σ3 vs1 = wipe σ2 vs1 ∧ tt1 σ3 H5 fun b H6 =>
          if b = true then te σ3 H6 fun y H7 => addedS w D y H7 Nx1 else Nx1 H6)
      else Nx H3)
section
variable {X : Cx}
theorem add_in {pins : List (Addr × Obj)} {σ : L2.St} {H : Hp} {s : Shared} {D : Addr} {y : V} {u : Value} {N : Hp → Prop} {Q : Value → Shared → Prop} (I : Inv X pins σ H s) (r : RelV y u) (a : addedS X.w D y H N)
    (h : ∀ H' s', Inv X pins σ H' s' → N H' → Q .none s') : wpAny (model X.prog X.w) X.A (call (.builtin "set.add") [.ref D, u]) Q X.xe s := by
  obtain ⟨k, S, n, rfl, hD, room, nx⟩ := a
  refine thn (mt_sadd pins s σ H (.ref D) [.int k] (.ref D) [u] (fun v H' => v = .non ∧ N H') I rfl (.cons r .nil) ⟨D, k, S, n, rfl, rfl, hD, room, rfl, nx⟩) fun v s' q => ?_
  obtain ⟨v', H', I', rv, rfl, nx'⟩ := q
  obtain rfl : v = Value.none := rv
  exact h H' s' I' nx'
variable {elt tg iter tg1 iter1 : Expr} {ifs ifs1 : List Expr} {scope : Scope} {own : List (Str × Nat)} {vs1 : List Nat} {pos : Pos} {wi wi1 : TI} {g g1 : TG} {tt tt1 : TT} {te : TE}
theorem pe_sc2 (hc : X.calm = true) (hN : X.N.Nodup) (hi : PI X tg iter wi) (ok : BlkOk X.N X.env.scope scope own) (hv : ∀ i ∈ vs1, i ∈ own.map (·.2))
    (blk : ∀ (s : Shared) (H : Hp) (C : Addr) (cl : List (Str × Addr)) (fp : List Addr), PG (X.blk s H scope (compEnvC scope cl C X.env) fp) tg g ∧ PTs (X.blk s H scope (compEnvC scope cl C X.env) fp) ifs tt ∧
      PI (X.blk s H scope (compEnvC scope cl C X.env) fp) tg1 iter1 wi1 ∧ PG (X.blk s H scope (compEnvC scope cl C X.env) fp) tg1 g1 ∧ PTs (X.blk s H scope (compEnvC scope cl C X.env) fp) ifs1 tt1 ∧
      PE (X.blk s H scope (compEnvC scope cl C X.env) fp) elt te)
    (fold : ∀ x, foldedSetIterable iter X.env x = pure x := by intro _; rfl) (fold1 : ∀ env x, foldedSetIterable iter1 env x = pure x := by intro _ _; rfl) :
    PE X (sc2 elt tg iter tg1 iter1 ifs ifs1 scope pos) (tSc2 X.w wi g tt wi1 g1 tt1 te (own.map (·.2)) vs1) := by
  refine ⟨fun pins s σ H Q I h => ?_⟩
  rw [PpSet.eval_SetComp]
  have cellOf : ∀ y ∈ scope.names, y.2 = .free → ∃ c, X.env.cells.lookup y.1 = some c := fun y hy e => (ok.free y hy e).elim (fun k => I.ok.has _ (.inl k)) fun k => I.ok.has _ (.inr k)
  refine wpAny_comprehension_free (use := none) rfl fold (closure_ok cellOf) ok.kind (fun y hy e => by rw [ok.uniq y hy, e]) (thn (hi.run pins s σ H _ I h) fun xv s1 hx => thn hx fun itv s2 h2 => ?_)
  obtain ⟨it, fp, tn, J, H2, e, I2, T, st2, f2, q⟩ := h2
  subst e
  refine PpSet.newSet_ok (newEnv_comp ?_)
  generalize hD : s2.heap.objs.size = D
  have freeD : H2 D = none := I2.hok.fresh (Nat.le_of_eq hD)
  obtain ⟨W, ⟨m0, w0⟩, turn⟩ := q D freeD
  generalize hso : ({ cls := .type "set", dict := none, data := .set #[] 0 (.fresh 0 0 (!X.w.params.followText "set-order")) } : Obj) = so
  have keepSo : ∀ b o, s2.heap.get? b = some o → (s2.heap.push so).get? b = some o := fun b o e => Heap.get?_push_of_some _ e
  have I3 : Inv X pins σ (upd H2 D (SetO X.w D (fun _ => false) 0)) { s2 with heap := s2.heap.push so } := by
    refine I2.laid (t' := s2.toks) keepSo (Nat.le_of_eq hD) ?_
    rw [← hD, ← hso]
    exact setO_new (setR_fresh X.w)
  generalize hs3 : ({ s2 with heap := s2.heap.push so } : Shared) = s3 at I3 ⊢
  have h3 : s3.heap = s2.heap.push so := by rw [← hs3]
  have below : ∀ b ∈ fp, b < s2.heap.objs.size := fun b hb => (T.obj _ _ st2 b hb).elim fun o e => Heap.lt_size e.1
  generalize hH3 : upd H2 D (SetO X.w D (fun _ => false) 0) = H3 at I3 w0 ⊢
  have f3 : ∀ b ∈ fp, FpOk X pins H3 b ∧ b < s3.heap.objs.size := fun b hb => by
    have lt := below b hb
    refine ⟨⟨?_, (f2 b hb).2⟩, by rw [h3, Heap.size_push]; exact Nat.lt_succ_of_lt lt⟩
    rw [← hH3, upd_ne (by rw [← hD]; exact Nat.ne_of_lt lt)]
    exact (f2 b hb).1
  have st3 : tn 0 s3.heap := T.keep _ _ _ st2 fun b _ o e => by rw [h3]; exact keepSo b o e
  have I4 := block_start I3 ok hN f3
  obtain ⟨pg, pt, pi1, pg1, pt1, pe⟩ := blk s3 H3 s3.heap.objs.size (cellsFrom (s3.heap.objs.size + 1) scope.names (cloFrom X.env.cells scope.names [])) fp
  show codeAny _ _ (.compStart (sc2 elt tg iter tg1 iter1 ifs ifs1 scope pos) 0 (.ref it) (.ref D) (compEnvC scope (cellsFrom (s3.heap.objs.size + 1) scope.names (cloFrom X.env.cells scope.names [])) s3.heap.objs.size X.env))
    (compPost (model X.prog X.w) X.A X.xe none (EP X pins σ Q) (.ref D) s3.heap.objs.size) { s3 with heap := pushCells (s3.heap.push { cls := .type "dict", data := .dict #[] }) scope.names }
  generalize hce : compEnvC scope (cellsFrom (s3.heap.objs.size + 1) scope.names (cloFrom X.env.cells scope.names [])) s3.heap.objs.size X.env = ce at I4 pg pt pi1 pg1 pt1 pe ⊢
  have locals : ce.locals = s3.heap.objs.size := by
    subst hce
    rfl
  generalize hs4 : ({ s3 with heap := pushCells (s3.heap.push { cls := .type "dict", data := .dict #[] }) scope.names } : Shared) = s4 at I4 ⊢
  have st4 : tn 0 s4.heap := T.keep _ _ _ st3 fun b _ o e => by
    rw [← hs4]
    exact pushCells_keeps _ _ _ _ (Heap.get?_push_of_some _ e)
  have clearOf : ∀ {H' : Hp}, H3 = H' → ∀ b ∈ fp, H' b = none := fun e b hb => by
    rw [← e]
    exact (f3 b hb).1.1
  -- a record of the outer walk, within the block
  have outer : ∀ {σ' : L2.St} {H' : Hp} {s' : Shared}, Inv (X.blk s3 H3 scope ce fp) [] σ' H' s' → (∀ b ∈ fp, H' b = none) → ∀ b ∈ fp, FpOk (X.blk s3 H3 scope ce fp) [] H' b := fun I' clear b hb =>
    ⟨clear b hb, (I'.ok.exf b hb).1, I'.ok.exfs b hb, .inl hb, fun x c e => (I'.ok.exf b hb).2 x c e, fun p hp => by simp at hp⟩
  -- what the outer loop keeps
  let Keep : Nat → Shared → Prop := fun n s' => ∃ i H', Inv (X.blk s3 H3 scope ce fp) [] (wipe σ (own.map (·.2))) H' s' ∧ tn i s'.heap ∧ (∀ b ∈ fp, H' b = none) ∧ W i n H'
  have loop : codeAny (model X.prog X.w) X.A (.compLoop (sc2 elt tg iter tg1 iter1 ifs ifs1 scope pos) 0 (.ref it) (.ref D) ce) (compPost (model X.prog X.w) X.A X.xe none (EP X pins σ Q) (.ref D) s3.heap.objs.size) s4 := by
    refine loop_outer (fold1 ce) Keep ?_ m0 ⟨0, H3, I4, st4, clearOf rfl, w0⟩
    rintro n s5 ⟨i, H5, I5, st5, n5, w5⟩
    rcases turn i n H5 w5 with ⟨stop, done⟩ | ⟨go, Nx, hNx, one⟩
    · refine thnF (T.done (X.blk s3 H3 scope ce fp) rfl rfl rfl hc i [] s5 _ H5 (fun _ _ => False) I5 (outer I5 n5) st5 stop) fun r s6 ⟨hr, I6⟩ => ?_
      subst hr
      have I7 : Inv X pins σ H5 s6 := I3.call' (ch := fp) I6.os I6.base I6.hok I6.bare fun b hb => by
        obtain ⟨⟨z1, z2, z3, z4, z5, z6⟩, _⟩ := f3 b hb
        exact ⟨z4, z2, z5, z6⟩
      have free5 : H5 s3.heap.objs.size = none := by
        have z : H5 ce.locals = none := I6.free
        rw [locals] at z
        exact z
      obtain ⟨m, hn, _⟩ := I6.loc
      have hn : s6.heap.Ns ce.locals m := hn
      rw [locals] at hn
      obtain ⟨y0, y1, y2, y3, y4, y5⟩ := I3.fpOk (Nat.le_refl _) free5
      refine ⟨m, hn, fun h'' sb => ?_⟩
      exact ⟨.ref D, H5, I7.turned (t' := s6.toks) (fun b o nb e => (sb.2 b nb).trans e) y0 y1 y3 y4 y5, rfl, done⟩
    · refine thnF (T.item (X.blk s3 H3 scope ce fp) rfl rfl rfl hc i [] s5 _ H5 (fun _ _ => False) I5 (outer I5 n5) st5 go) fun r s6 ⟨u, hr, h6⟩ => ?_
      subst hr
      refine thnF h6 fun _ s7 ⟨x, H7, I7, r7, y7, st7, n7⟩ => ?_
      refine thnF (pg.run _ s7 _ H7 x u _ (I7.pinned (outer I7 n7) (T.obj _ _ st7)) r7 (one x H7 y7)) fun _ s8 ⟨σ8, H8, I8, hw8, q8⟩ => ?_
      refine thnF (pt.run _ s8 σ8 H8 _ I8 q8) fun b s9 ⟨H9, I9, q9⟩ => ?_
      have len8 : (wipe σ (own.map (·.2))).length = σ8.length := by rw [← hw8, wipe_length]
      have know8 : ∀ (j : Nat) v, (wipe σ (own.map (·.2)))[j]? = some (some v) → σ8[j]? = some (some v) ∧ j ∉ own.map (·.2) := fun j v e => by
        rw [← hw8] at e
        exact wipe_some e
      -- the turn's end, from any slots that know what the block knew
      have fin : ∀ {σ9 : L2.St} {s' : Shared} {H' : Hp}, Inv (X.blk s3 H3 scope ce fp) ([] ++ pinsAt fp s7.heap) σ9 H' s' → (wipe σ (own.map (·.2))).length = σ9.length →
          (∀ (j : Nat) v, (wipe σ (own.map (·.2)))[j]? = some (some v) → σ9[j]? = some (some v)) → Nx H' → ∃ m, m < n ∧ Keep m s' := fun {σ9 s' H'} I' hl hk nx => by
        obtain ⟨m', lt, w'⟩ := hNx H' nx
        have pinned : ∀ b ∈ fp, ∀ o, s7.heap.get? b = some o → s'.heap.get? b = some o ∧ H' b = none := fun b hb o e => by
          have z := I'.pin (b, o) (List.mem_append_right _ (List.mem_append_right _ (mem_pinsAt hb e)))
          exact ⟨z.1, z.2.1⟩
        refine ⟨m', lt, i + 1, H', (I'.unpinned (pins := [])).weak hl hk, T.keep _ _ _ st7 fun b hb o e => (pinned b hb o e).1, fun b hb => ?_, w'⟩
        obtain ⟨o, e, _⟩ := T.obj _ _ st7 b hb
        exact (pinned b hb o e).2
      cases b with
      | false =>
        simp only [Bool.false_eq_true, if_false] at q9 ⊢
        exact fin I9 len8 (fun j v e => (know8 j v e).1) q9
      | true =>
        simp only [if_true] at q9 ⊢
        refine thnF (pi1.run _ s9 σ8 H9 _ I9 q9) fun xv s10 hx => thnF hx fun itv s11 h11 => ?_
        obtain ⟨it1, fp1, tn1, J1, H11, e1, I11, T1, st11, f11, W1, ⟨m1, w1⟩, turn1⟩ := h11
        subst e1
        have inner : ∀ {H' : Hp}, (∀ b ∈ fp1, H' b = none) → ∀ b ∈ fp1, FpOk (X.blk s3 H3 scope ce fp) ([] ++ pinsAt fp s7.heap) H' b := fun clear b hb => ⟨clear b hb, (f11 b hb).2⟩
        let Keep1 : Nat → Shared → Prop := fun k s' => ∃ j H', Inv (X.blk s3 H3 scope ce fp) ([] ++ pinsAt fp s7.heap) (wipe σ8 vs1) H' s' ∧ tn1 j s'.heap ∧ (∀ b ∈ fp1, H' b = none) ∧ W1 j k H'
        have loop1 : codeAny (model X.prog X.w) X.A (.compLoop (sc2 elt tg iter tg1 iter1 ifs ifs1 scope pos) 1 (.ref it1) (.ref D) ce) (fun r s' => (∃ fl, r = .ok fl) ∧ ∃ m, m < n ∧ Keep m s') s11 := by
          refine loop_inner Keep1 ?_ m1 ⟨0, H11, I11.weak (wipe_length _ _) (fun j v e => (wipe_some e).1), st11, fun b hb => (f11 b hb).1, w1⟩
          rintro k s12 ⟨j, H12, I12, st12, n12, w12⟩
          rcases turn1 j k H12 w12 with ⟨stop1, nx1⟩ | ⟨go1, Nx1, hNx1, one1⟩
          · refine thnF (T1.done (X.blk s3 H3 scope ce fp) rfl rfl rfl hc j _ s12 (wipe σ8 vs1) H12 (fun _ _ => False) I12 (inner n12) st12 stop1) fun r s13 ⟨hr, I13⟩ => ?_
            subst hr
            refine ⟨⟨_, rfl⟩, fin I13 (len8.trans (wipe_length σ8 vs1).symm) (fun j v e => ?_) nx1⟩
            obtain ⟨z1, z2⟩ := know8 j v e
            rw [wipe_out fun z => z2 (hv j z)]
            exact z1
          · refine thnF (T1.item (X.blk s3 H3 scope ce fp) rfl rfl rfl hc j _ s12 (wipe σ8 vs1) H12 (fun _ _ => False) I12 (inner n12) st12 go1) fun r s13 ⟨u1, hr, h13⟩ => ?_
            subst hr
            refine thnF h13 fun _ s14 ⟨x1, H14, I14, r14, y14, st14, n14⟩ => ?_
            refine thnF (pg1.run _ s14 (wipe σ8 vs1) H14 x1 u1 _ (I14.pinned (inner n14) (T1.obj _ _ st14)) r14 (one1 x1 H14 y14)) fun _ s15 ⟨σ15, H15, I15, hw15, q15⟩ => ?_
            refine thnF (pt1.run _ s15 σ15 H15 _ I15 q15) fun b1 s16 ⟨H16, I16, q16⟩ => ?_
            have fin1 : ∀ {s' : Shared} {H' : Hp}, Inv (X.blk s3 H3 scope ce fp) (([] ++ pinsAt fp s7.heap) ++ pinsAt fp1 s14.heap) σ15 H' s' → Nx1 H' → ∃ m, m < k ∧ Keep1 m s' := fun {s' H'} I' nx => by
              obtain ⟨m', lt, w'⟩ := hNx1 H' nx
              have pinned : ∀ b ∈ fp1, ∀ o, s14.heap.get? b = some o → s'.heap.get? b = some o ∧ H' b = none := fun b hb o e => by
                have z := I'.pin (b, o) (List.mem_append_right _ (List.mem_append_right _ (mem_pinsAt hb e)))
                exact ⟨z.1, z.2.1⟩
              refine ⟨m', lt, j + 1, H', I'.unpinned.weak (by rw [← hw15, wipe_length]) (fun j v e => by rw [← hw15] at e; exact (wipe_some e).1), T1.keep _ _ _ st14 fun b hb o e => (pinned b hb o e).1, fun b hb => ?_, w'⟩
              obtain ⟨o, e, _⟩ := T1.obj _ _ st14 b hb
              exact (pinned b hb o e).2
            cases b1 with
            | false =>
              simp only [Bool.false_eq_true, if_false] at q16 ⊢
              exact fin1 I16 q16
            | true =>
              simp only [if_true] at q16 ⊢
              refine thnF (pe.run _ s16 σ15 H16 _ I16 q16) fun z s17 ⟨yv, H17, I17, r17, ad⟩ => ?_
              exact thnF (add_in (X := X.blk s3 H3 scope ce fp) (Q := fun _ s' => ∃ m, m < k ∧ Keep1 m s') I17 r17 ad fun H' s18 I18 nx => fin1 I18 nx) fun _ _ z => z
        exact start_inner loop1 (T1.self X.A 0 _ _ _ st11 loop1)
  exact PpSet.codeAny_compStart_set loop (T.self X.A 0 _ _ _ st4 loop)
end
end EV
end L2

set_option Elab.async false
set_option linter.all false
set_option maxRecDepth 100000
set_option maxHeartbeats 4000000
/-! enumerate over a tuple. -/
namespace PySem
open Sem (wp)
open AutoSeq1 (wpAny_loadPart')
theorem meets_enumerate_newT (l : Addr) (items : Array Value) (n : Nat) (dct : Option Addr) (sl : Array (Option Value)) :
    Meets (Builtin.«enumerate.__new__» ⟨[.type "enumerate", .ref l], []⟩) (fun _ R s => s.heap.get? l = some { cls := .type "tuple", dict := dct, data := .seq items n, slots := sl } ∧
      R (.ok (.ret (.ref (s.heap.push { cls := .type "tuple_iterator", data := .fields #[.ref l, .int 0 0] }).objs.size)))
        { s with heap := (s.heap.push { cls := .type "tuple_iterator", data := .fields #[.ref l, .int 0 0] }).push { cls := .type "enumerate", data := .fields #[.none, .bool false, .ref s.heap.objs.size, rawInt 0, .none, .none] } }) :=
  .of_wp fun prog w A R s h => by
    obtain ⟨hp, g, d, tk, os⟩ := s; obtain ⟨hl, h⟩ := h
    have hsub := sub_enumerate
    have hL : Heap.IsTuple (Shared.heap ⟨hp, g, d, tk, os⟩) l items := ⟨_, hl, rfl, n, rfl⟩
    wp_walk using wpAny_loadPart' hl
    refine wpAny_stack_any fun st => wpAny_pure ?_
    split
    · rename_i c _ _ _ _ _
      cases (c == Value.type "enumerate")
      · wp_walk using wpAny_loadPart' hl, wpAny_pyIter_tuple hL
        exact ⟨_, rfl, h⟩
      · wp_walk using wpAny_loadPart' hl, wpAny_pyIter_tuple hL
        exact ⟨_, rfl, h⟩
    · wp_walk using wpAny_loadPart' hl, wpAny_pyIter_tuple hL
      exact ⟨_, rfl, h⟩
section
variable {prog : Program} {w : World} {A : Around} {E : Value → Shared → Prop} {s : Shared}
theorem call_enumerate_tuple {l : Addr} {items : Array Value} {Q : Value → Shared → Prop} (hL : s.heap.IsTuple l items)
    (h : ∀ h', IsEnum h' (s.heap.objs.size + 1) s.heap.objs.size 0 .none → h'.IsTupleIter s.heap.objs.size l 0 → h'.objs.size = s.heap.objs.size + 2 →
      (∀ b o, s.heap.get? b = some o → h'.get? b = some o) → Q (.ref (s.heap.objs.size + 1)) { s with heap := h' }) :
    wpAny (model prog w) A (call (.type "enumerate") [.ref l]) Q E s := by
  obtain ⟨⟨c, dct, dt, sl⟩, hl, hc, n, hd⟩ := hL
  replace hc : c = .type "tuple" := hc
  replace hd : dt = .seq items n := hd
  subst hc hd
  refine callType_new F.called_enumerate (by decide) (F.typeCall_enumerate_1 _) (F.newCall_enumerate_1 _) (fun obj => F.args_object_init_2 obj _) F.entry_enumerate_new
    (meets_enumerate_newT l items n dct sl) ⟨hl, ?_⟩
  have hz : (s.heap.push { cls := .type "tuple_iterator", data := .fields #[.ref l, .int 0 0] }).objs.size = s.heap.objs.size + 1 := Heap.size_push ..
  show _ ∧ _
  rw [hz]
  have he : IsEnum ((s.heap.push { cls := .type "tuple_iterator", data := .fields #[.ref l, .int 0 0] }).push
      { cls := .type "enumerate", data := .fields #[.none, .bool false, .ref s.heap.objs.size, rawInt 0, .none, .none] }) (s.heap.objs.size + 1) s.heap.objs.size 0 .none := by
    have := Heap.get?_push_size (s.heap.push { cls := .type "tuple_iterator", data := .fields #[.ref l, .int 0 0] })
      (o := { cls := .type "enumerate", data := .fields #[.none, .bool false, .ref s.heap.objs.size, rawInt 0, .none, .none] }) rfl
    rw [hz] at this; exact this
  refine ⟨⟨_, he, rfl⟩, h _ he ⟨_, Heap.get?_push_of_some _ (Heap.get?_push_size _ rfl), rfl, rfl⟩ (by rw [Heap.size_push, hz]) fun b o x => Heap.get?_push_of_some _ (Heap.get?_push_of_some _ x)⟩
end
end PySem
namespace L2
open PySem PySem.Spec PyProof.Rows
def IteT (K : PySem.W.Frag) (a : Addr) : It :=
  ⟨fun i H => ∃ (xs : List V) (x : V), SqT K H a xs ∧ xs[i]? = some x, fun i H v H' => ∃ T x, v = .ref T ∧ H T = none ∧ H' = upd H T (.tup [.int (i : Nat), x]) ∧ ∀ xs, SqT K H a xs → xs[i]? = some x, fun i H => ∃ xs : List V, SqT K H a xs ∧ xs.length = i⟩
theorem turn_enumT {P : Program} {w : World} {K : PySem.W.Frag} {elts : List Expr} {kk : Nat} {tpos : Pos} (a e it : Addr) (hai : a ≠ it) (hae : a ≠ e) :
    Turn P w K (.Tuple elts kk tpos) (IteT K a) [e, it] e (fun i h => (∃ old, IsEnum h e it ((i : Nat) : Int) old) ∧ h.IsTupleIter it a i ∧ e ≠ it) where
  mem := by simp
  obj := fun i h st b hb => by
    obtain ⟨⟨old, he⟩, ⟨o, ho, hc, hd⟩, _⟩ := st
    have e' : b = e ∨ b = it := by simpa using hb
    rcases e' with z | z
    · rw [z]; exact ⟨_, he, fun v q => nomatch q⟩
    · rw [z]; exact ⟨o, ho, fun v q => by rw [hd] at q; cases q⟩
  keep := fun i h h' st k => let ⟨⟨old, he⟩, hi, hne⟩ := st; ⟨⟨old, k e (by simp) _ he⟩, hi.at fun o q => k it (by simp) o q, hne⟩
  item := by
    intro X hP hw hK hc i pins s σ H E I hf st hg
    subst hP hw hK
    obtain ⟨⟨old, he⟩, hit, hne⟩ := st
    obtain ⟨xs, x, hq, hx⟩ := hg
    obtain ⟨its, rv, p, hz⟩ := I.tuple hq
    obtain ⟨u, hu, ru⟩ := rv.get hx
    have hel : e < s.heap.objs.size := Heap.lt_size he
    have hil : it < s.heap.objs.size := by obtain ⟨_, q, _⟩ := hit; exact Heap.lt_size q
    have hlt : i < its.toArray.size := by
      have := (List.getElem?_eq_some_iff.mp hu).1
      simpa using this
    refine wpAny_pyNext_enum_itemD (Draws.tuple (A := X.A.in1) (show X.A.in1.handled = none from I.ok.hd hc) it a hai its.toArray) he ⟨hit, show s.heap.IsTuple a its.toArray from p⟩ hlt hne (by simp [hne, Ne.symm hae]) fun u' h' tk hu' ho st' hT hsz hk => ?_
    have e0 : u' = u := by
      have q1 : its[i]? = some u' := by simpa using hu'
      rw [hu] at q1
      exact (Option.some.inj q1).symm
    subst e0
    obtain ⟨hit', _⟩ := st'
    refine ⟨_, rfl, wpAny_letOwnedTupleGo_enum (s := { s with heap := h', toks := tk + 1 }) ho fun h'' he' sb => ?_⟩
    have hT2 : h''.get? s.heap.objs.size = some { cls := .type "tuple", data := .seq #[.int i tk, u'] } := (sb.2 _ (Nat.ne_of_gt hel)).trans hT
    have new : ObjOk X.prog X.w (upd H s.heap.objs.size (.tup [.int (i : Nat), x])) h'' s.heap.objs.size (.tup [.int (i : Nat), x]) :=
      ⟨by show 2 ≤ sizeLine; decide, [.int i tk, u'], .cons ⟨_, rfl⟩ (.cons ru .nil), ⟨_, hT2, rfl, _, rfl⟩⟩
    have I1 : Inv X pins σ (upd H s.heap.objs.size (.tup [.int (i : Nat), x])) { s with heap := h'', toks := tk + 1 } :=
      I.turnedNew (ch := [e, it]) (fun b ob hb q => (sb.2 b (fun z => hb (by simp [z]))).trans (hk b ob (fun z => hb (by simp [z])) (fun z => hb (by simp [z])) q)) hf (Nat.le_refl _) new
    refine ⟨.ref s.heap.objs.size, _, I1, rfl, ⟨_, x, rfl, I.hok.fresh (Nat.le_refl _), rfl, fun ys hy => by rw [I.tuple_inj hy hq]; exact hx⟩, ⟨⟨u', ?_⟩, hit'.at fun o q => (sb.2 it (Ne.symm hne)).trans q, hne⟩, fun b hb => ?_⟩
    · have e1 : ((i + 1 : Nat) : Int) = (i : Int) + 1 := by omega
      rw [e1]; exact he'
    · have hb' : b < s.heap.objs.size := by
        have e' : b = e ∨ b = it := by simpa using hb
        rcases e' with z | z
        · rw [z]; exact hel
        · rw [z]; exact hil
      rw [upd_ne (Nat.ne_of_lt hb')]
      exact (hf b hb).1
  done := by
    intro X hP hw hK hc i pins s σ H E I hf st hg
    subst hP hw hK
    obtain ⟨⟨old, he⟩, hit, hne⟩ := st
    obtain ⟨xs, hq, hx⟩ := hg
    obtain ⟨its, rv, p, hz⟩ := I.tuple hq
    obtain ⟨f0, f1, f2, f3, f4, f5⟩ := hf it (by simp)
    have hl := rv.length
    have hn : its.toArray.size = i := by simp; omega
    exact wpAny_pyNext_enum_endD (Draws.tuple (A := X.A.in1) (show X.A.in1.handled = none from I.ok.hd hc) it a hai its.toArray) he ⟨hn.symm ▸ hit, show s.heap.IsTuple a its.toArray from p⟩ fun h' eb => ⟨rfl, I.turned (t' := s.toks) (fun b o hb q => eb b o hb q) f0 f1 f3 f4 f5⟩
  self := fun A i s Q E st h => let ⟨⟨_, he⟩, _⟩ := st; wpAny_pyIter_enum he h
def iEnumT (K : PySem.W.Frag) (ta : TA) : TI := fun σ H R => ta σ H fun vs H1 => ∃ a xs, vs = [.ref a] ∧ SqT K H1 a xs ∧ R (IteT K a) H1
theorem pi_enumT {X : Cx} {e : Expr} {ta : TA} {p pos tpos : Pos} {elts : List Expr} {kk : Nat} (hg : Gl X "enumerate") (hm : X.mg "enumerate" = none) (ha : PA X [e] ta) (hs : starEach [e] X.env = [(false, eval e X.env)] := by rfl) :
    PI X (.Tuple elts kk tpos) (.Call (.Name "enumerate" p) [e] [] pos) (iEnumT X.K ta) := by
  refine ⟨fun pins s σ H R I h => ?_⟩
  refine Call_ (ld_blt I hg hm boot_enumerate (PyProof.Rows.callWith_type1 (thn (ha.run pos pins s σ H _ I h) fun us s1 ⟨vs, H1, I1, r1, q1⟩ => ?_) hs rfl))
  obtain ⟨a, xs, ex, hq, q⟩ := q1
  subst ex
  cases r1 with
  | cons r rr =>
    cases rr
    cases r
    obtain ⟨its, rv, p', hz⟩ := I1.tuple hq
    have hal : a < s1.heap.objs.size := by
      obtain ⟨o, q, _⟩ := id p'
      exact Heap.lt_size q
    refine call_enumerate_tuple (show s1.heap.IsTuple a its.toArray from p') fun h' he hit hsz hk => wpAny_pyIter_enum he ?_
    have I2 : Inv X pins σ H1 { s1 with heap := h' } := I1.kept (t' := s1.toks) hk
    refine ⟨s1.heap.objs.size + 1, [s1.heap.objs.size + 1, s1.heap.objs.size], _, _, H1, rfl, I2, turn_enumT a (s1.heap.objs.size + 1) s1.heap.objs.size (Nat.ne_of_lt hal) (Nat.ne_of_lt (Nat.lt_succ_of_lt hal)), ⟨⟨.none, he⟩, hit, Nat.succ_ne_self _⟩, fun b hb => ?_, q⟩
    have e' : b = s1.heap.objs.size + 1 ∨ b = s1.heap.objs.size := by simpa using hb
    have hle : s1.heap.objs.size ≤ b := by
      rcases e' with z | z
      · rw [z]; exact Nat.le_add_right _ _
      · rw [z]; exact Nat.le_refl _
    exact I1.fpOk hle (I1.hok.fresh hle)
theorem walk_enumT {K : PySem.W.Frag} {a : Addr} {xs : List V} : Walk (IteT K a) xs.length (fun H => SqT K H a xs) (YPair (fun i => some (.int (i : Nat))) (fun i => xs[i]?)) := by
  refine ⟨fun i _ hi q => ⟨xs, xs[i], q, by simp [hi]⟩, fun _ q => ⟨xs, q, rfl⟩, fun i H v H' _ q y => ?_⟩
  obtain ⟨T, x, h1, h2, h3, h4⟩ := y
  exact ⟨T, .int (i : Nat), x, h1, h2, h3, rfl, h4 xs q⟩
end L2

set_option Elab.async false
set_option linter.all false
set_option maxRecDepth 100000
set_option maxHeartbeats 4000000
/-! Framings; listed_standings. -/
namespace K34
open PySem L2 L2.EV
abbrev sListed : Stmt := top 18
/-- a framing at f -/
def FrA (H : Hp) (f : Addr) (fr : List T3) : Prop := ∃ ts : List Addr, H f = some (.tup (ts.map V.ref)) ∧ ts.length = fr.length ∧ ∀ (i : Nat) t x, ts[i]? = some t → fr[i]? = some x → S3 H t x
theorem FrA.same {H H' : Hp} {f : Addr} {fr : List T3} (h : FrA H f fr) (s : Same H H') : FrA H' f fr := by
  obtain ⟨ts, e, l, c⟩ := h
  exact ⟨ts, s _ _ e, l, fun i t x h1 h2 => s _ _ (c i t x h1 h2)⟩
structure Frm (fr : List T3) (last : Nat) : Prop where
  l0 : 1 ≤ fr.length
  l1 : fr.length ≤ 16
  stp : ∀ x ∈ fr, Stp x
  srt : fr.Pairwise (fun x y => lt3 x y = true)
  ring : ∀ k : Nat, k ≤ last → ∃ x ∈ fr, x.1 = (k : Int) ∧ x.2.2 = (if k < last then (k : Int) + 1 else 0)
  lo : ∀ x ∈ fr, x.1 ≤ last ∧ x.2.2 ≤ last
  l5 : last ≤ 5
/-- a framing's bounds -/
structure Fb (fr : List T3) (last : Nat) : Prop where
  l1 : fr.length ≤ 16
  lo : ∀ x ∈ fr, 0 ≤ x.1 ∧ x.1 ≤ last ∧ 0 ≤ x.2.2 ∧ x.2.2 ≤ last
  l5 : last ≤ 5
/-- what is closed under the steps, from b on, holds all standings -/
theorem Frm.all {fr : List T3} {last : Nat} (F : Frm fr last) {S : Int → Prop} {b : Nat} (hb : b ≤ last) (c0 : ∀ x ∈ fr, x.1 = (b : Int) → S x.2.2) (c : ∀ x ∈ fr, S x.1 → S x.2.2) : ∀ k : Nat, k ≤ last → S k := by
  have up : ∀ j : Nat, b + j ≤ last → j = 0 ∨ S ((b + j : Nat) : Int) := by
    intro j
    induction j with
    | zero => exact fun _ => .inl rfl
    | succ j ih =>
      intro h
      obtain ⟨x, hx, e1, e2⟩ := F.ring (b + j) (by omega)
      rw [if_pos (by omega)] at e2
      have e3 : (((b + (j + 1) : Nat)) : Int) = ((b + j : Nat) : Int) + 1 := by omega
      rw [e3, ← e2]
      refine .inr ?_
      rcases ih (by omega) with z | z
      · subst z
        exact c0 x hx (by simpa using e1)
      · exact c x hx (by rw [e1]; exact z)
  have s0 : S 0 := by
    obtain ⟨x, hx, e1, e2⟩ := F.ring last (Nat.le_refl _)
    rw [if_neg (by omega)] at e2
    rw [← e2]
    obtain ⟨j, rfl⟩ := Nat.le.dest hb
    rcases up j (Nat.le_refl _) with z | z
    · subst z
      exact c0 x hx (by simpa using e1)
    · exact c x hx (by rw [e1]; exact z)
  intro k
  induction k with
  | zero => exact fun _ => s0
  | succ k ih =>
    intro h
    obtain ⟨x, hx, e1, e2⟩ := F.ring k (by omega)
    rw [if_pos (by omega)] at e2
    have e3 : ((k + 1 : Nat) : Int) = (k : Int) + 1 := by omega
    rw [e3, ← e2]
    exact c x hx (by rw [e1]; exact ih (by omega))
theorem sc_it {J : It} {n : Nat} {G : Hp → Prop} {Y : Nat → Hp → V → Hp → Prop} (w : Walk J n G Y) {H0 : Hp} {Qd : Hp → Prop} {body : V → Hp → (Hp → Prop) → Prop} (Pv : Nat → Hp → Prop) (h0 : Pv 0 H0) (hG : ∀ i H, i ≤ n → Pv i H → G H)
    (hs : ∀ i x H H', i < n → Pv i H → Y i H x H' → body x H' (Pv (i + 1))) (hd : ∀ H, Pv n H → Qd H) :
    ∃ W : Nat → Nat → Hp → Prop, (∃ m, W 0 m H0) ∧ ∀ i m H, W i m H → (J.stop i H ∧ Qd H) ∨ (J.go i H ∧ ∃ Nx : Hp → Prop, (∀ H', Nx H' → ∃ m', m' < m ∧ W (i + 1) m' H') ∧ ∀ x H', J.yld i H x H' → body x H' Nx) := by
  refine ⟨fun i m H => m = n - i ∧ i ≤ n ∧ Pv i H, ⟨n, by simp, Nat.zero_le _, h0⟩, ?_⟩
  rintro i m H ⟨rfl, hi, p⟩
  have q := hG i H hi p
  by_cases hlt : i < n
  · exact .inr ⟨w.goes i H hlt q, Pv (i + 1), fun H' p' => ⟨n - (i + 1), by omega, rfl, hlt, p'⟩, fun x H' y => hs i x H H' hlt p (w.yields i H x H' hlt q y)⟩
  · have e : i = n := by omega
    subst e
    exact .inl ⟨w.stops H q, hd H p⟩
theorem at_step {H : Hp} {ts : List Addr} {fr : List T3} {i : Nat} {x : V} (hl : ts.length = fr.length) (ht : ∀ (i : Nat) t x, ts[i]? = some t → fr[i]? = some x → S3 H t x) (hx : (ts.map V.ref)[i]? = some x) :
    ∃ t y, fr[i]? = some y ∧ x = .ref t ∧ S3 H t y := by
  rw [List.getElem?_map] at hx
  cases e : ts[i]? with
  | none =>
    rw [e] at hx
    cases hx
  | some t =>
    rw [e] at hx
    have il : i < fr.length := by
      have := (List.getElem?_eq_some_iff.mp e).1
      omega
    exact ⟨t, fr[i], List.getElem?_eq_getElem il, (Option.some.inj hx).symm, ht i t _ e (List.getElem?_eq_getElem il)⟩
/-- listed_standings(framing): a new list of numbers up to last -/
def spListed : Sp := fun vs H Q _ => ∃ (f : Addr) (fr : List T3) (last : Nat), vs = [.ref f] ∧ FrA H f fr ∧ Fb fr last ∧
  ∀ (H' : Hp) (p : Addr) (ns : List Int), Same H H' → H p = none → H' p = some (.lst (ns.map V.int)) → ns.length ≤ 32 → (∀ k ∈ ns, 0 ≤ k ∧ k ≤ last) → (∀ x ∈ fr, x.1 ∈ ns ∧ x.2.2 ∈ ns) → Q (.ref p) H'
theorem pe_sc2s {X : Cx} {elt tg iter tg1 iter1 : Expr} {ifs ifs1 : List Expr} {scope : Scope} {own : List (Str × Nat)} {vs1 : List Nat} {pos : Pos} {wi wi1 : TI} {g g1 : TG} {tt tt1 : TT} {te : TE} (hc : X.calm = true) (hN : X.N.Nodup) (hi : PI X tg iter wi) (ok : BlkOk X.N X.env.scope scope own) (hv : ∀ i ∈ vs1, i ∈ own.map (·.2))
    (b1 : ∀ (s : Shared) (H : Hp) (C : Addr) (cl : List (Str × Addr)) (fp : List Addr), PG (X.blk s H scope (compEnvC scope cl C X.env) fp) tg g)
    (b2 : ∀ (s : Shared) (H : Hp) (C : Addr) (cl : List (Str × Addr)) (fp : List Addr), PTs (X.blk s H scope (compEnvC scope cl C X.env) fp) ifs tt)
    (b3 : ∀ (s : Shared) (H : Hp) (C : Addr) (cl : List (Str × Addr)) (fp : List Addr), PI (X.blk s H scope (compEnvC scope cl C X.env) fp) tg1 iter1 wi1)
    (b4 : ∀ (s : Shared) (H : Hp) (C : Addr) (cl : List (Str × Addr)) (fp : List Addr), PG (X.blk s H scope (compEnvC scope cl C X.env) fp) tg1 g1)
    (b5 : ∀ (s : Shared) (H : Hp) (C : Addr) (cl : List (Str × Addr)) (fp : List Addr), PTs (X.blk s H scope (compEnvC scope cl C X.env) fp) ifs1 tt1)
    (b6 : ∀ (s : Shared) (H : Hp) (C : Addr) (cl : List (Str × Addr)) (fp : List Addr), PE (X.blk s H scope (compEnvC scope cl C X.env) fp) elt te)
    (fold : ∀ x, foldedSetIterable iter X.env x = pure x := by intro _; rfl) (fold1 : ∀ env x, foldedSetIterable iter1 env x = pure x := by intro _ _; rfl) :
    PE X (.SetComp elt [⟨tg, iter, ifs, 0⟩, ⟨tg1, iter1, ifs1, 0⟩] scope pos) (tSc2 X.w wi g tt wi1 g1 tt1 te (own.map (·.2)) vs1) :=
  pe_sc2 hc hN hi ok hv (fun s H C cl fp => ⟨b1 s H C cl fp, b2 s H C cl fp, b3 s H C cl fp, b4 s H C cl fp, b5 s H C cl fp, b6 s H C cl fp⟩) fold fold1
theorem same_set {D : Addr} {H H' : Hp} {o : HO} (hD : H D = none) (k : Same H H') : Same H (upd H' D o) := fun b u e => by
  rw [upd_ne (ne_of_none e hD)]
  exact k _ _ e
theorem scan64 : 64 < scanBound := by decide +kernel
section
variable {P : Program} {w : World} {K : PySem.W.Frag} {mg : Str → Option Value} {base : Heap}
theorem scListed : FnScope ["framing", "start", "piece", "goal", "standing"] ["framing"] (defScope sListed) := ⟨rfl, rfl, rfl, by decide +kernel, rfl, by decide +kernel, by decide +kernel⟩
theorem ok_listed {f : Addr} {fd : FuncData} (F : Fun K "listed_standings" "listed_standings" sListed f fd) (hs : mg "sorted" = none) : FnOk P w K mg base CX0 1 f fd ["framing"] spListed := by
  refine F.ok scListed (fun vs H Q E h => ?_) (fun cdv A outer s H vs Q E hr h => ?_)
  · obtain ⟨f, fr, last, rfl, _⟩ := h
    rfl
  · obtain ⟨f, fr, last, rfl, fa, fm, q⟩ := h
    refine ⟨_, pss_one (ps_ret (pe_callB (cr_sortedSet rfl) (by rfl) hs (by decide +kernel) (pa_cons (pe_sc2s (g := gTup K 3 (gCons (gName 1) (gCons (gName 2) (gCons (gName 3) gNil)))) (tt := tYes) (wi1 := iTup K (tTup (tCons (tVar 1) (tCons (tVar 3) tNil)))) (g1 := gName 4) (tt1 := tYes) (te := tVar 4) (own := [("start", 1), ("piece", 2), ("goal", 3), ("standing", 4)]) (vs1 := [4]) rfl scListed.nd (pi_tup (pv 0))
      (blkOk_by (N := ["framing", "start", "piece", "goal", "standing"]) (sc := defScope sListed) (by decide +kernel)) (by decide)
      (fun _ _ _ _ _ => pg_tup rfl (pgs_cons (pg_name (i := 1) scListed.nd rfl (Or.inl rfl)) (pgs_cons (pg_name (i := 2) scListed.nd rfl (Or.inl rfl)) (pgs_cons (pg_name (i := 3) scListed.nd rfl (Or.inl rfl)) pgs_nil)))) (fun _ _ _ _ _ => pts_nil)
      (fun _ _ _ _ _ => pi_tup (pe_tup (pa_cons (pv 1) (pa_cons (pv 3) pa_nil)))) (fun _ _ _ _ _ => pg_name (i := 4) scListed.nd rfl (Or.inl rfl)) (fun _ _ _ _ _ => pts_nil) (fun _ _ _ _ _ => pv 4)) pa_nil))), ?_⟩
    obtain ⟨ts, hf, hl, ht⟩ := id fa
    refine ⟨_, rfl, f, rfl, ⟨_, SqT.of hf⟩, fun D hD => ?_⟩
    refine sc_it (walk_tup (xs := ts.map V.ref)) (fun i H' => Same H H' ∧ ∃ (S : Int → Bool) (n : Nat), H' D = some (SetO w D S n) ∧ n ≤ 2 * i ∧ (∀ k, S k = true → 0 ≤ k ∧ k ≤ last) ∧ ∀ x ∈ fr.take i, S x.1 = true ∧ S x.2.2 = true)
      ⟨same_upd hD, _, _, upd_same, Nat.le_refl _, (fun k z => by cases z), fun x z => by cases z⟩ (fun i H' _ z => SqT.of (z.1 _ _ hf)) ?_ ?_
    · rintro i x H1 H2 hi ⟨sm, S, n, hS, hn, hk, hall⟩ ⟨rfl, hx⟩
      obtain ⟨t, y, hy, rfl, e3⟩ := at_step (i := i) hl ht hx
      have e4 : H2 t = _ := sm _ _ e3
      obtain ⟨b1, b5, b3, b6⟩ := fm.lo y (List.mem_of_getElem? hy)
      refine ⟨t, _, rfl, SqT.of e4, rfl, _, _, rfl, _, _, rfl, _, _, rfl, rfl, rfl, ?_⟩
      refine ⟨_, rfl, _, rfl, (by show 2 ≤ sizeLine; decide), fun p hp => ⟨p, rfl, ⟨_, SqT.of upd_same⟩, ?_⟩⟩
      refine sc_it (walk_tup (xs := [V.int y.1, V.int y.2.2])) (fun j H' => Same H H' ∧ H' p = some (.tup [V.int y.1, V.int y.2.2]) ∧ ∃ (S : Int → Bool) (n : Nat), H' D = some (SetO w D S n) ∧ n ≤ 2 * i + j ∧ (∀ k, S k = true → 0 ≤ k ∧ k ≤ last) ∧ (∀ x ∈ fr.take i, S x.1 = true ∧ S x.2.2 = true) ∧ (0 < j → S y.1 = true) ∧ (1 < j → S y.2.2 = true))
        ⟨fun b u e => same_upd hp _ _ (sm _ _ e), upd_same, S, n, by rw [upd_ne (ne_of_none hS hp)]; exact hS, hn, hk, hall, (fun z => absurd z (by omega)), fun z => absurd z (by omega)⟩ (fun j H' _ z => SqT.of z.2.1) ?_ ?_
      · rintro j x H2 H3 hj ⟨sm2, hp2, S2, n2, hS2, hn2, hk2, ha2, hy1, hy2⟩ ⟨rfl, hx2⟩
        have hj2 : j < 2 := hj
        obtain ⟨k, rfl, k0, k1, kj0, kj1⟩ : ∃ k : Int, x = .int k ∧ 0 ≤ k ∧ k ≤ last ∧ (j = 0 → k = y.1) ∧ (j = 1 → k = y.2.2) := by
          match j, hj2 with
          | 0, _ => exact ⟨y.1, (Option.some.inj hx2).symm, b1, b5, fun _ => rfl, fun z => by cases z⟩
          | 1, _ => exact ⟨y.2.2, (Option.some.inj hx2).symm, b3, b6, (fun z => by cases z), fun _ => rfl⟩
        have sc := scan64
        have l1 := fm.l1
        have hi2 : i < fr.length := (List.getElem?_eq_some_iff.mp hy).1
        refine ⟨rfl, _, rfl, k, S2, n2, rfl, hS2, by omega, same_set hD sm2, ?_, _, _, upd_same, ?_, (fun k2 z => ?_), (fun x2 z2 => ?_), (fun z2 => ?_), fun z2 => ?_⟩
        · rw [upd_ne (ne_of hp2 hS2 (fun z => by cases z))]
          exact hp2
        · split <;> omega
        · rw [Bool.or_eq_true] at z
          rcases z with z | z
          · exact hk2 k2 z
          · have e5 : k2 = k := of_decide_eq_true z
            rw [e5]
            exact ⟨k0, k1⟩
        · obtain ⟨c1, c2⟩ := ha2 x2 z2
          exact ⟨by rw [c1, Bool.true_or], by rw [c2, Bool.true_or]⟩
        · by_cases c : j = 0
          · rw [kj0 c, decide_eq_true rfl, Bool.or_true]
          · rw [hy1 (by omega), Bool.true_or]
        · have c : j = 1 := by omega
          rw [kj1 c, decide_eq_true rfl, Bool.or_true]
      · rintro H2 ⟨sm2, hp2, S2, n2, hS2, hn2, hk2, ha2, hy1, hy2⟩
        refine ⟨sm2, S2, n2, hS2, ?_, hk2, fun x2 z2 => ?_⟩
        · have hn3 : n2 ≤ 2 * i + 2 := hn2
          omega
        · have il := (List.getElem?_eq_some_iff.mp hy).1
          rw [List.take_succ, hy] at z2
          rcases List.mem_append.mp z2 with z2 | z2
          · exact ha2 x2 z2
          · have e9 : x2 = y := by simpa using z2
            rw [e9]
            exact ⟨hy1 (by simp), hy2 (by simp)⟩
    · rintro H1 ⟨sm, S, n, hS, hn, hk, hall⟩
      refine ⟨D, S, n, rfl, hS, ?_, fun ns p _ h2 h3 h4 => ?_⟩
      · have := fm.l1
        simp only [List.length_map] at hn
        omega
      · refine q _ p ns ?_ ?_ upd_same ?_ ?_ ?_
        · exact fun b u e => by
            rw [upd_ne (ne_of_none (sm _ _ e) h4)]
            exact sm _ _ e
        · exact sm.free h4
        · have := fm.l1
          simp only [List.length_map] at hn
          omega
        · exact fun k z => hk k ((h2 k).mp z)
        · intro x hx
          have e9 : fr.take (ts.map V.ref).length = fr := by rw [List.length_map, hl, List.take_length]
          rw [e9] at hall
          exact ⟨(h2 _).mpr (hall x hx).1, (h2 _).mpr (hall x hx).2⟩
end
end K34

set_option Elab.async false
set_option linter.all false
set_option maxRecDepth 100000
set_option maxHeartbeats 4000000
/-! ways_from: all standings are found. -/
namespace K34
open PySem L2 L2.EV
abbrev sWays : Stmt := top 19
abbrev has (kvs : List (Key × V)) (g : Int) : Bool := (valV kvs (Sum.inl g : Key)).isSome
/-- ways_from(framing, b): a new dict that has all standings -/
def spWays : Sp := fun vs H Q _ => ∃ (f : Addr) (fr : List T3) (last b : Nat) (S : Int → Prop), vs = [.ref f, .int b] ∧ FrA H f fr ∧ Fb fr last ∧ b ≤ last ∧ (∀ x ∈ fr, x.1 = (b : Int) → S x.2.2) ∧ (∀ x ∈ fr, S x.1 → S x.2.2) ∧
  ∀ (H' : Hp) (d : Addr) (kvs : List (Key × V)), Same H H' → H d = none → H' d = some (.dK kvs) → (∀ x ∈ fr, (x.1 = (b : Int) ∨ has kvs x.1 = true) → has kvs x.2.2 = true) → (∀ g : Int, has kvs g = true → S g) → Q (.ref d) H'
/-- the standings up to last that are not found -/
def miss (last : Nat) (kvs : List (Key × V)) : Nat := ((List.range (last + 1)).filter fun k : Nat => !has kvs k).length
theorem miss_le {last : Nat} {kvs : List (Key × V)} : miss last kvs ≤ last + 1 := by
  have := List.length_filter_le (fun k : Nat => !has kvs k) (List.range (last + 1))
  rw [List.length_range] at this
  exact this
theorem filt_lt {α : Type} {p q : α → Bool} : ∀ {l : List α} {a : α}, a ∈ l → p a = true → q a = false → (∀ x, q x = true → p x = true) → (l.filter q).length < (l.filter p).length
  | x :: l, a, hm, hp, hq, h => by
    have le : ∀ m : List α, (m.filter q).length ≤ (m.filter p).length := fun m => by
      induction m with
      | nil => exact Nat.le_refl _
      | cons y m ih =>
        rw [List.filter_cons, List.filter_cons]
        by_cases z : q y = true
        · rw [if_pos z, if_pos (h y z), List.length_cons, List.length_cons]
          omega
        · rw [if_neg z]
          split
          · rw [List.length_cons]
            omega
          · exact ih
    rw [List.filter_cons, List.filter_cons]
    rcases List.mem_cons.mp hm with z | z
    · subst z
      rw [if_pos hp, if_neg (by rw [hq]; simp), List.length_cons]
      have := le l
      omega
    · have ih := filt_lt z hp hq h
      by_cases y : q x = true
      · rw [if_pos y, if_pos (h x y), List.length_cons, List.length_cons]
        omega
      · rw [if_neg y]
        split
        · rw [List.length_cons]
          omega
        · exact ih
theorem has_put {kvs : List (Key × V)} {g k : Int} {v : V} : has (putK kvs (Sum.inl g) v) k = (decide (k = g) || has kvs k) := by
  unfold has
  rw [valV_put]
  by_cases e : k = g
  · subst e
    rw [if_pos rfl, decide_eq_true rfl]
    rfl
  · rw [if_neg (fun z => e (Sum.inl.inj z)), decide_eq_false e, Bool.false_or]
theorem miss_put {last : Nat} {kvs : List (Key × V)} {g : Int} {v : V} (h0 : 0 ≤ g) (h1 : g ≤ last) (n : has kvs g = false) : miss last (putK kvs (Sum.inl g) v) < miss last kvs := by
  obtain ⟨a, rfl⟩ := Int.eq_ofNat_of_zero_le h0
  refine filt_lt (a := a) (List.mem_range.mpr (by omega)) (by simp only [n, Bool.not_false]) ?_ ?_
  · rw [has_put, decide_eq_true rfl]
    rfl
  · intro x hx
    rw [has_put] at hx
    cases z : has kvs x with
    | false => rfl
    | true =>
      rw [z] at hx
      simp at hx
/-- the rows: tuples of a way and a standing -/
def Rows (H : Hp) (last n : Nat) (ps : List (Addr × Int)) : Prop := ∀ q ∈ ps, 0 ≤ q.2 ∧ q.2 ≤ last ∧ ∃ (wy : Addr) (xs : List V), H q.1 = some (.tup [.ref wy, .int q.2]) ∧ H wy = some (.tup xs) ∧ xs.length ≤ n
def KeepT (H H' : Hp) : Prop := ∀ a xs, H a = some (.tup xs) → H' a = some (.tup xs)
theorem Rows.keep {H H' : Hp} {last n m : Nat} {ps : List (Addr × Int)} (h : Rows H last n ps) (k : KeepT H H') (l : n ≤ m) : Rows H' last m ps := fun q hq => by
  obtain ⟨h0, h1, wy, xs, e1, e2, e3⟩ := h q hq
  exact ⟨h0, h1, wy, xs, k _ _ e1, k _ _ e2, Nat.le_trans e3 l⟩
theorem Same.keepT {H H' : Hp} (s : Same H H') : KeepT H H' := fun a xs e => s _ _ e
theorem KeepT.trans {H H' H2 : Hp} (a : KeepT H H') (b : KeepT H' H2) : KeepT H H2 := fun x xs e => b _ _ (a _ _ e)
theorem keepT_upd {H : Hp} {d : Addr} {o : HO} {o' : HO} (e : H d = some o') (n : ∀ xs, o' ≠ .tup xs) : KeepT H (upd H d o) := fun a xs h => by
  by_cases z : a = d
  · subst z
    rw [e] at h
    exact absurd (Option.some.inj h) (n xs)
  · rw [upd_ne z]
    exact h
/-- t + u, u not empty: the result is somewhere, all else stays -/
def rCatS (K : PySem.W.Frag) : R2 := fun x y H Q => ∃ a b xs ys, x = .ref a ∧ y = .ref b ∧ SqT K H a xs ∧ H b = some (.tup ys) ∧ ys ≠ [] ∧ xs.length + ys.length ≤ sizeLine ∧ ∀ p H', Same H H' → H' p = some (.tup (xs ++ ys)) → Q (.ref p) H'
theorem op_catS {X : Cx} : OpR X (binaryOp .Add) (rCatS X.K) := by
  intro pins s σ H x y v u Q I rx ry h
  obtain ⟨a, b, xs, ys, rfl, rfl, ha, hb, hn, hz, q⟩ := h
  refine op_catA pins s σ H _ _ v u Q I rx ry ⟨a, b, xs, ys, rfl, rfl, ha, SqT.of hb, hz, fun z => ?_, fun _ z => absurd z hn, fun _ _ p hp => q p _ (same_upd hp) upd_same⟩
  subst z
  exact q b H (fun _ _ e => e) (by rw [hb]; rfl)
structure Co (H0 H : Hp) (d r u : Addr) (last m0 : Nat) (ps qs : List (Addr × Int)) (kvs : List (Key × V)) : Prop where
  sm : Same H0 H
  hd : H d = some (.dK kvs)
  hr : H r = some (.lst (ps.map fun q => V.ref q.1))
  hu : H u = some (.lst (qs.map fun q => V.ref q.1))
  rp : Rows H last kvs.length ps
  rq : Rows H last kvs.length qs
  cnt : kvs.length + miss last kvs ≤ last + 1
  me : (qs = [] ∧ miss last kvs ≤ m0) ∨ miss last kvs < m0
  ql : qs.length ≤ kvs.length
theorem Co.same {H0 H H' : Hp} {d r u : Addr} {last m0 : Nat} {ps qs : List (Addr × Int)} {kvs : List (Key × V)} (C : Co H0 H d r u last m0 ps qs kvs) (s : Same H H') : Co H0 H' d r u last m0 ps qs kvs :=
  ⟨C.sm.trans s, s _ _ C.hd, s _ _ C.hr, s _ _ C.hu, C.rp.keep (Same.keepT s) (Nat.le_refl _), C.rq.keep (Same.keepT s) (Nat.le_refl _), C.cnt, C.me, C.ql⟩
/-- what is reached from a standing that stands in the rows, or is found -/
def Clo (fr : List T3) (b : Nat) (kvs : List (Key × V)) (open_ : Int → T3 → Prop) : Prop := ∀ x ∈ fr, (x.1 = (b : Int) ∨ has kvs x.1 = true) → open_ x.1 x ∨ has kvs x.2.2 = true
def Sd (S : Int → Prop) (b : Nat) (ps : List (Addr × Int)) : Prop := ∀ q ∈ ps, q.2 = (b : Int) ∨ S q.2
def Sk (S : Int → Prop) (kvs : List (Key × V)) : Prop := ∀ g : Int, has kvs g = true → S g
section
variable {P : Program} {w : World} {K : PySem.W.Frag} {mg : Str → Option Value} {base : Heap}
theorem scWays : FnScope ["framing", "begin", "found", "rows", "further", "way", "standing", "number", "start", "piece", "goal"] ["framing", "begin"] (defScope sWays) := ⟨rfl, rfl, rfl, by decide +kernel, rfl, by decide +kernel, by decide +kernel⟩
theorem ok_ways {f : Addr} {fd : FuncData} (F : Fun K "ways_from" "ways_from" sWays f fd) (he : mg "enumerate" = none) : FnOk P w K mg base CX0 1 f fd ["framing", "begin"] spWays := by
  refine F.ok scWays (fun vs H Q E h => ?_) (fun cdv A outer s H vs Q E hr h => ?_)
  · obtain ⟨f, fr, last, b, S, rfl, _⟩ := h
    rfl
  · obtain ⟨f, fr, last, b, S, rfl, fa, fm, hb, cl0, cl1, q⟩ := h
    have hu := hu_of hr
    refine ⟨_, pss_cons (ps_set (i := 2) scWays.nd rfl (Or.inl rfl) pe_dnewK)
      (pss_cons (ps_set (i := 3) scWays.nd rfl (Or.inl rfl) (pe_lst (pa_cons (pe_tup (pa_cons (pe_tup pa_nil) (pa_cons (pv 1) pa_nil))) pa_nil)))
      (pss_cons (ps_while PassesOwn.never (pt_truth (pv 3) (fun _ => rfl))
        (pss_cons (ps_set (i := 4) scWays.nd rfl (Or.inl rfl) (pe_lst pa_nil))
        (pss_cons (ps_for PassesOwn.never rfl (pi_list (pv 3)) (pg_tup rfl (pgs_cons (pg_name (i := 5) scWays.nd rfl (Or.inl rfl)) (pgs_cons (pg_name (i := 6) scWays.nd rfl (Or.inl rfl)) pgs_nil)))
          (pss_one (ps_for PassesOwn.never rfl (pi_enumT (by rfl) he (pa_cons (pv 0) pa_nil)) (pg_tup rfl (pgs_cons (pg_name (i := 7) scWays.nd rfl (Or.inl rfl)) (pgs_cons (pg_tup rfl (pgs_cons (pg_name (i := 8) scWays.nd rfl (Or.inl rfl)) (pgs_cons (pg_name (i := 9) scWays.nd rfl (Or.inl rfl)) (pgs_cons (pg_name (i := 10) scWays.nd rfl (Or.inl rfl)) pgs_nil)))) pgs_nil)))
            (pss_one (ps_if (pw_and (pt_cmpR op_eq (pv 8) (pv 6) (nomark _)) (pw_and1 (pt_cmp (pc_dnotin hu (pv 10) (pv 2)) (by rfl)))).pt
              (pss_cons (ps_dput hu (pv 2) (pv 10) (pe_op op_catS (pv 5) (pe_tup (pa_cons (pv 7) pa_nil))) rfl)
                (pss_one (ps_expr (pe_bm PySem.F.plainAttrs_list PySem.F.slot_list_append PySem.F.type_list_append mt_append (pv 4) (pa_cons (pe_tup (pa_cons (pe_dget hu (pv 2) (pv 10) (fun _ _ => rfl)) (pa_cons (pv 10) pa_nil))) pa_nil)))))
              pss_nil)))))
        (pss_one (ps_set (i := 3) scWays.nd rfl (Or.inl rfl) (pv 4))))))
      (pss_one (ps_ret (pv 2))))), ?_⟩
    intro d hd0
    have sd := same_upd (o := HO.dK []) hd0
    refine ⟨by decide, fun e0 he0 => ⟨_, rfl, (by show 2 ≤ sizeLine; decide), fun p0 hp0 => ⟨(by show 1 ≤ sizeLine; decide), fun r hr0 => ?_⟩⟩⟩
    have s1 := same_upd (o := HO.tup []) he0
    have s2 := same_upd (o := HO.tup [V.ref e0, V.int (b : Int)]) hp0
    have s3 := same_upd (o := HO.lst [V.ref p0]) hr0
    refine ⟨fun j σ H' => ∃ (r : Addr) (kvs : List (Key × V)) (ps : List (Addr × Int)) (v4 v5 v6 v7 v8 v9 v10 : Option V), σ = [some (.ref f), some (.int b), some (.ref d), some (.ref r), v4, v5, v6, v7, v8, v9, v10] ∧
      Same H H' ∧ H' d = some (.dK kvs) ∧ H' r = some (.lst (ps.map fun q => V.ref q.1)) ∧ Rows H' last kvs.length ps ∧ kvs.length + miss last kvs ≤ last + 1 ∧ Clo fr b kvs (fun g _ => ∃ q ∈ ps, q.2 = g) ∧ Sd S b ps ∧ Sk S kvs ∧ j = 2 * miss last kvs + (if ps = [] then 0 else 1), ⟨_, r, [], [(p0, (b : Int))], none, none, none, none, none, none, none, rfl, ?_, ?_, ?_, ?_, ?_, ?_, (fun q hq => .inl (by rw [List.mem_singleton.mp hq])), (fun g z => by cases z), rfl⟩, ?_⟩
    · exact sd.trans (s1.trans (s2.trans s3))
    · exact s3 _ _ (s2 _ _ (s1 _ _ upd_same))
    · exact upd_same
    · intro q hq
      have e : q = (p0, (b : Int)) := by simpa using hq
      subst e
      refine ⟨by show (0 : Int) ≤ (b : Int); omega, by show (b : Int) ≤ last; omega, e0, [], s3 _ _ upd_same, s3 _ _ (s2 _ _ upd_same), Nat.le_refl _⟩
    · have := miss_le (last := last) (kvs := [])
      simp only [List.length_nil]
      omega
    · intro x hx h
      rcases h with h | h
      · exact .inl ⟨_, List.mem_singleton.mpr rfl, h.symm⟩
      · cases h
    · rintro j σ H1 ⟨r, kvs, ps, v4, v5, v6, v7, v8, v9, v10, rfl, sm, hd, hr, rp, cnt, clo, sd0, sk0, rfl⟩
      refine ⟨_, rfl, _, .inl ⟨_, SqL.of hr, rfl⟩, ?_⟩
      by_cases hps : ps = []
      · subst hps
        refine iteF' rfl ?_
        refine ⟨_, rfl, q H1 d kvs sm hd0 hd ?_ sk0⟩
        have c2 : ∀ x ∈ fr, (x.1 = (b : Int) ∨ has kvs x.1 = true) → has kvs x.2.2 = true := fun x hx h => by
          rcases clo x hx h with ⟨_, z, _⟩ | z
          · cases z
          · exact z
        exact c2
      · refine iteT' (by cases ps; exact absurd rfl hps; rfl) ?_
        refine ⟨_, fun _ _ z => z, ?_⟩
        refine ⟨by decide, fun u hu0 => ?_⟩
        have su := same_upd (o := HO.lst []) hu0
        have hur : u ≠ r := (ne_of_none hr hu0).symm
        have hu00 : H u = none := sm.free hu0
        refine ⟨_, rfl, r, rfl, ⟨_, SqL.of (su _ _ hr)⟩, for_it (walk_list (xs := ps.map fun q => V.ref q.1)) (fun i σ H' => ∃ (kvs2 : List (Key × V)) (qs : List (Addr × Int)) (v5 v6 v7 v8 v9 v10 : Option V), σ = [some (.ref f), some (.int b), some (.ref d), some (.ref r), some (.ref u), v5, v6, v7, v8, v9, v10] ∧
          Co H H' d r u last (miss last kvs) ps qs kvs2 ∧ Clo fr b kvs2 (fun g _ => (∃ q ∈ ps.drop i, q.2 = g) ∨ ∃ q ∈ qs, q.2 = g) ∧ Sd S b qs ∧ Sk S kvs2)
          ⟨kvs, [], v5, v6, v7, v8, v9, v10, rfl, ⟨sm.trans su, su _ _ hd, su _ _ hr, upd_same, rp.keep (Same.keepT su) (Nat.le_refl _), (fun q hq => by cases hq), cnt, .inl ⟨rfl, Nat.le_refl _⟩, Nat.zero_le _⟩, (fun x hx h => (clo x hx h).imp (fun z => .inl z) id), (fun q hq => by cases hq), sk0⟩
          (fun i σ H' _ ⟨_, _, _, _, _, _, _, _, _, C, _⟩ => SqL.of C.hr) ?_ ?_⟩
        · rintro i v σ H2 H3 hi ⟨kvs2, qs, v5, v6, v7, v8, v9, v10, rfl, C, cl, sd2, sk2⟩ ⟨rfl, hv⟩
          obtain ⟨q1, hq1, rfl⟩ : ∃ q1, ps[i]? = some q1 ∧ v = V.ref q1.1 := by
            rw [List.getElem?_map] at hv
            cases e : ps[i]? with
            | none =>
              rw [e] at hv
              cases hv
            | some q1 =>
              rw [e] at hv
              exact ⟨q1, rfl, (Option.some.inj hv).symm⟩
          obtain ⟨g0, g1, wy, xs, e1, e2, e3⟩ := C.rp q1 (List.mem_of_getElem? hq1)
          have dq : ps.drop i = q1 :: ps.drop (i + 1) := by
            have il := (List.getElem?_eq_some_iff.mp hq1).1
            rw [List.drop_eq_getElem_cons il]
            have := (List.getElem?_eq_some_iff.mp hq1).2
            rw [this]
          obtain ⟨ts, hf, hl, ht⟩ := id fa
          refine ⟨_, _, rfl, SqT.of e1, rfl, _, _, rfl, _, _, rfl, rfl, ?_⟩
          refine ⟨_, rfl, f, _, rfl, SqT.of (C.sm _ _ hf), for_it (walk_enumT (xs := ts.map V.ref)) (fun k σ H' => ∃ (kvs3 : List (Key × V)) (qs3 : List (Addr × Int)) (v7 v8 v9 v10 : Option V), σ = [some (.ref f), some (.int b), some (.ref d), some (.ref r), some (.ref u), some (.ref wy), some (.int q1.2), v7, v8, v9, v10] ∧
            Co H H' d r u last (miss last kvs) ps qs3 kvs3 ∧ H' wy = some (.tup xs) ∧ xs.length ≤ kvs3.length ∧ Clo fr b kvs3 (fun g x => ((∃ q ∈ ps.drop (i + 1), q.2 = g) ∨ ∃ q ∈ qs3, q.2 = g) ∨ (g = q1.2 ∧ x ∈ fr.drop k)) ∧ Sd S b qs3 ∧ Sk S kvs3)
            ⟨kvs2, qs, v7, v8, v9, v10, rfl, C, e2, e3, (fun x hx h => ?_), sd2, sk2⟩
            (fun k σ H' _ ⟨_, _, _, _, _, _, _, C', _⟩ => SqT.of (C'.sm _ _ hf)) ?_ ?_⟩
          · rcases cl x hx h with (⟨q, z, e⟩ | z) | z
            · rw [dq] at z
              rcases List.mem_cons.mp z with z | z
              · subst z
                exact .inl (.inr ⟨e.symm, by simpa using hx⟩)
              · exact .inl (.inl (.inl ⟨q, z, e⟩))
            · exact .inl (.inl (.inr z))
            · exact .inr z
          · rintro k x σ H3 H4 hk ⟨kvs3, qs3, v7, v8, v9, v10, rfl, C3, w3, wl, cl3, sd3, sk3⟩ ⟨T, xi, xo, rfl, nT, rfl, h1, h2⟩
            cases h1
            obtain ⟨t, y, hy, rfl, e4⟩ := at_step (i := k) hl ht h2
            have uT := same_upd (o := HO.tup [V.int (k : Nat), V.ref t]) nT
            have C4 := C3.same uT
            have t4 := uT _ _ (C3.sm _ _ e4)
            have w4 := uT _ _ w3
            have hym : y ∈ fr := List.mem_of_getElem? hy
            obtain ⟨b1, b5, b3, b6⟩ := fm.lo y hym
            have dk : fr.drop k = y :: fr.drop (k + 1) := by
              have il := (List.getElem?_eq_some_iff.mp hy).1
              rw [List.drop_eq_getElem_cons il]
              have := (List.getElem?_eq_some_iff.mp hy).2
              rw [this]
            -- the step is done with
            have go : ∀ (kvs4 : List (Key × V)) (qs4 : List (Addr × Int)), (∀ g : Int, has kvs4 g = true → has kvs3 g = true ∨ ∃ q ∈ qs4, q.2 = g) → (∀ g : Int, has kvs3 g = true → has kvs4 g = true) → (∀ q ∈ qs3, q ∈ qs4) → (y.1 = q1.2 → has kvs4 y.2.2 = true) →
                Clo fr b kvs4 (fun g x => ((∃ q ∈ ps.drop (i + 1), q.2 = g) ∨ ∃ q ∈ qs4, q.2 = g) ∨ (g = q1.2 ∧ x ∈ fr.drop (k + 1))) := fun kvs4 qs4 n1 n2 n3 n4 x hx h => by
              have old : x.1 = (b : Int) ∨ has kvs3 x.1 = true → ((((∃ q ∈ ps.drop (i + 1), q.2 = x.1) ∨ ∃ q ∈ qs4, q.2 = x.1) ∨ (x.1 = q1.2 ∧ x ∈ fr.drop (k + 1))) ∨ has kvs4 x.2.2 = true) := fun h => by
                rcases cl3 x hx h with ((z | ⟨q, z, e⟩) | ⟨z1, z2⟩) | z
                · exact .inl (.inl (.inl z))
                · exact .inl (.inl (.inr ⟨q, n3 q z, e⟩))
                · rw [dk] at z2
                  rcases List.mem_cons.mp z2 with z2 | z2
                  · subst z2
                    exact .inr (n4 z1)
                  · exact .inl (.inr ⟨z1, z2⟩)
                · exact .inr (n2 _ z)
              rcases h with h | h
              · exact old (.inl h)
              · rcases n1 _ h with z | z
                · exact old (.inr z)
                · exact .inl (.inl (.inr z))
            refine ⟨T, _, rfl, SqT.of upd_same, rfl, _, _, rfl, _, _, rfl, ⟨t, _, rfl, SqT.of t4, rfl, _, _, rfl, _, _, rfl, _, _, rfl, rfl, rfl, ?_⟩⟩
            refine ⟨_, rfl, _, rfl, rfl, _, rfl, ?_⟩
            refine ite2 (fun z => ?_) (fun z => ?_)
            · have z1 : y.1 = q1.2 := V.int.inj (of_decide_eq_true z)
              refine ⟨_, rfl, _, rfl, d, _, rfl, DGet.k (k := Sum.inl y.2.2) C4.hd, _, rfl, ?_⟩
              refine ite2 (fun y1 => ?_) (fun y1 => ?_)
              · have no : has kvs3 y.2.2 = false := by
                  cases e : has kvs3 y.2.2 with
                  | false => rfl
                  | true =>
                    have e' : (valV kvs3 (Sum.inl y.2.2 : Key)).isSome = true := e
                    rw [e'] at y1
                    cases y1
                have mp := miss_put (v := V.non) b3 b6 no
                have l5 := fm.l5
                have c3 := C3.cnt
                refine ⟨_, rfl, ⟨_, rfl, (by show 1 ≤ sizeLine; decide), fun p hp => ⟨wy, p, xs, [V.int (k : Nat)], rfl, rfl, SqT.of (same_upd hp _ _ w4), upd_same, (fun z => by cases z), ?_, fun nw H5 s5 n5 => ?_⟩⟩⟩
                · rw [sizeLine_eq]
                  simp only [List.length_cons, List.length_nil]
                  omega
                have C5 := (C4.same (same_upd (o := HO.tup [V.int (k : Nat)]) hp)).same s5
                have hdu : d ≠ u := ne_of C5.hd C5.hu (fun z => by cases z)
                have hdr : d ≠ r := ne_of C5.hd C5.hr (fun z => by cases z)
                refine ⟨_, rfl, _, rfl, d, _, rfl, DPut.k (k := Sum.inl y.2.2) C5.hd (by rw [sizeLine_eq]; omega), ?_⟩
                have hn : valV kvs3 (Sum.inl y.2.2 : Key) = none := by
                  cases e : valV kvs3 (Sum.inl y.2.2 : Key) with
                  | none => rfl
                  | some v =>
                    have e' : has kvs3 y.2.2 = true := by
                      show (valV kvs3 (Sum.inl y.2.2 : Key)).isSome = true
                      rw [e]
                      rfl
                    rw [e'] at no
                    cases no
                generalize hH6 : upd H5 d (.dK (putK kvs3 (Sum.inl y.2.2) (.ref nw))) = H6
                have k6 : KeepT H5 H6 := by
                  rw [← hH6]
                  exact keepT_upd C5.hd (fun xs z => by cases z)
                have d6 : H6 d = some (.dK (putK kvs3 (Sum.inl y.2.2) (.ref nw))) := by
                  rw [← hH6]
                  exact upd_same
                have u6 : H6 u = some (.lst (qs3.map fun q => V.ref q.1)) := by
                  rw [← hH6, upd_ne hdu.symm]
                  exact C5.hu
                have r6 : H6 r = some (.lst (ps.map fun q => V.ref q.1)) := by
                  rw [← hH6, upd_ne hdr.symm]
                  exact C5.hr
                have m6 : Same H H6 := by
                  rw [← hH6]
                  exact same_set hd0 C5.sm
                have g6 : valV (putK kvs3 (Sum.inl y.2.2) (V.ref nw)) (Sum.inl y.2.2 : Key) = some (.ref nw) := by
                  rw [valV_put, if_pos rfl]
                have n6 := k6 _ _ n5
                have ml := miss_le (last := last) (kvs := kvs3)
                have mp2 := miss_put (v := V.ref nw) b3 b6 no
                have pe : (putK kvs3 (Sum.inl y.2.2 : Key) (V.ref nw)).length = kvs3.length + 1 := by
                  rw [putK_new _ hn, List.length_append]
                  rfl
                have ql := C3.ql
                have sy : S y.2.2 := by
                  rcases sd0 q1 (List.mem_of_getElem? hq1) with z | z
                  · exact cl0 y hym (by rw [z1, z])
                  · exact cl1 y hym (by rw [z1]; exact z)
                have sd4 : ∀ p7 : Addr, Sd S b (qs3 ++ [(p7, y.2.2)]) := fun p7 q hq => by
                  rcases List.mem_append.mp hq with hq | hq
                  · exact sd3 q hq
                  · rw [List.mem_singleton.mp hq]
                    exact .inr sy
                have sk4 : Sk S (putK kvs3 (Sum.inl y.2.2) (V.ref nw)) := fun g h => by
                  rw [has_put] at h
                  rcases (Bool.or_eq_true _ _).mp h with h | h
                  · rw [of_decide_eq_true h]
                    exact sy
                  · exact sk3 g h
                refine ⟨_, rfl, ?_, _, rfl, _, rfl, ⟨d, _, rfl, by rw [← g6]; exact DGet.k (k := Sum.inl y.2.2) d6, _, rfl, (by show 2 ≤ sizeLine; decide), fun p7 hp7 => ⟨u, qs3.map (fun q => V.ref q.1), _, rfl, rfl, same_upd hp7 _ _ u6, by rw [sizeLine_eq, List.length_map]; omega, ?_⟩⟩⟩
                · exact .inl ⟨rfl, _, SqL.of u6⟩
                have k7 := Same.keepT (same_upd (o := HO.tup [V.ref nw, V.int y.2.2]) hp7)
                have hd7 := same_upd (o := HO.tup [V.ref nw, V.int y.2.2]) hp7 _ _ d6
                have hu7 := same_upd (o := HO.tup [V.ref nw, V.int y.2.2]) hp7 _ _ u6
                have hr7 := same_upd (o := HO.tup [V.ref nw, V.int y.2.2]) hp7 _ _ r6
                have k8 := keepT_upd (o := .lst (qs3.map (fun q => V.ref q.1) ++ [V.ref p7])) hu7 (fun xs z => by cases z)
                have kk : KeepT H5 _ := (k6.trans k7).trans k8
                refine ⟨putK kvs3 (Sum.inl y.2.2) (.ref nw), qs3 ++ [(p7, y.2.2)], _, _, _, _, rfl, ⟨same_set hu00 (m6.trans (same_upd hp7)), ?_, ?_, ?_, ?_, ?_, by rw [pe]; omega, .inr ?_, by rw [pe, List.length_append]; simp only [List.length_cons, List.length_nil]; omega⟩, ?_, by rw [pe]; omega, ?_⟩
                · rw [upd_ne hdu]
                  exact hd7
                · rw [upd_ne hur.symm]
                  exact hr7
                · rw [List.map_append]
                  exact upd_same
                · exact C5.rp.keep kk (by rw [pe]; omega)
                · intro q hq
                  rcases List.mem_append.mp hq with hq | hq
                  · exact C5.rq.keep kk (by rw [pe]; omega) q hq
                  · have e : q = (p7, y.2.2) := by simpa using hq
                    subst e
                    refine ⟨b3, b6, nw, xs ++ [V.int (k : Nat)], k8 _ _ upd_same, k8 _ _ (k7 _ _ n6), ?_⟩
                    rw [pe, List.length_append]
                    simp only [List.length_cons, List.length_nil]
                    omega
                · rcases C3.me with ⟨_, z⟩ | z <;> omega
                · exact kk _ _ ((same_upd (o := HO.tup [V.int (k : Nat)]) hp |>.trans s5) _ _ w4)
                · refine ⟨go _ _ (fun g h => ?_) (fun g h => ?_) (fun q h => List.mem_append_left _ h) (fun _ => ?_), sd4 _, sk4⟩
                  · rw [has_put] at h
                    rcases (Bool.or_eq_true _ _).mp h with h | h
                    · exact .inr ⟨_, List.mem_append_right _ (List.mem_singleton.mpr rfl), (of_decide_eq_true h).symm⟩
                    · exact .inl h
                  · rw [has_put, h, Bool.or_true]
                  · rw [has_put, decide_eq_true rfl]
                    rfl
              · have yes : has kvs3 y.2.2 = true := by
                  cases e : has kvs3 y.2.2 with
                  | true => rfl
                  | false =>
                    have e' : (valV kvs3 (Sum.inl y.2.2 : Key)).isSome = false := e
                    rw [e'] at y1
                    exact absurd rfl y1
                exact ⟨kvs3, qs3, _, _, _, _, rfl, C4, w4, wl, go kvs3 qs3 (fun g h => .inl h) (fun g h => h) (fun q h => h) (fun _ => yes), sd3, sk3⟩
            · have z1 : ¬ y.1 = q1.2 := fun e => z (decide_eq_true (congrArg V.int e))
              refine iteF ?_
              exact ⟨kvs3, qs3, _, _, _, _, rfl, C4, w4, wl, go kvs3 qs3 (fun g h => .inl h) (fun g h => h) (fun q h => h) (fun e => absurd e z1), sd3, sk3⟩
          · rintro σ H3 ⟨kvs3, qs3, v7, v8, v9, v10, rfl, C3, w3, wl, cl3, sd3, sk3⟩
            refine ⟨kvs3, qs3, _, _, v7, v8, v9, v10, rfl, C3, (fun x hx h => ?_), sd3, sk3⟩
            rcases cl3 x hx h with (z | ⟨_, z⟩) | z
            · exact .inl z
            · rw [show (ts.map V.ref).length = fr.length by simp [hl], List.drop_length] at z
              cases z
            · exact .inr z
        · rintro σ H2 ⟨kvs2, qs, v5, v6, v7, v8, v9, v10, rfl, C, cl, sd2, sk2⟩
          refine ⟨_, rfl, _, ?_, u, kvs2, qs, some (.ref u), v5, v6, v7, v8, v9, v10, rfl, C.sm, C.hd, C.hu, C.rq, C.cnt, (fun x hx h => ?_), sd2, sk2, rfl⟩
          · rw [if_neg hps]
            rcases C.me with ⟨z, y⟩ | z
            · rw [if_pos z]
              omega
            · split <;> omega
          · rcases cl x hx h with (z | z) | z
            · rw [List.length_map, List.drop_length] at z
              obtain ⟨_, z, _⟩ := z
              cases z
            · exact .inl z
            · exact .inr z
end
end K34

set_option Elab.async false
set_option linter.all false
set_option maxRecDepth 100000
set_option maxHeartbeats 4000000
/-! try: .. except (A, B, ..) as e: the caught error is kept as a value behind the suite. Raising an own exception that was made by its own __init__. -/
namespace L2
namespace EV
open PySem PySem.Spec PyProof.Rows _root_.EV
/-- an exception that was caught, at a -/
def exh (cls : Value) (d : Option Addr) (a : Addr) : HO := .ext fun h => ∃ (oe : Obj) (vs : Array Value), h.get? a = some oe ∧ Zc cls d oe ∧ oe.data = .fields vs
theorem exh_ok {P : Program} {w : World} {H : Hp} {h : Heap} {a : Addr} {cls : Value} {d : Option Addr} {oe : Obj} {vs : Array Value} (e : h.get? a = some oe) (z : Zc cls d oe) (hd : oe.data = .fields vs) : ObjOk P w H h a (exh cls d a) :=
  ⟨⟨oe, vs, e, z, hd⟩, ⟨oe, e⟩, fun _ _ ⟨o, v, q, r⟩ k => ⟨o, v, k o q, r⟩⟩
theorem exh_at {P : Program} {w : World} {H : Hp} {h : Heap} {a : Addr} {cls : Value} {d : Option Addr} (hok : HOk P w H h) (e : H a = some (exh cls d a)) : ∃ (oe : Obj) (vs : Array Value), h.get? a = some oe ∧ Zc cls d oe ∧ oe.data = .fields vs := by
  have q : ObjOk P w H h a (.ext fun h => ∃ (oe : Obj) (vs : Array Value), h.get? a = some oe ∧ Zc cls d oe ∧ oe.data = .fields vs) := hok a _ e
  exact q.1
theorem flies_keeps {B : Heap} {l : List Env} {a : Addr} {Z : Obj → Prop} {h h' : Heap} (f : HandSPX.FlyingZ B l a Z h) (k : ∀ b o, h.get? b = some o → h'.get? b = some o) : HandSPX.FlyingZ B l a Z h' := by
  obtain ⟨f1, f2, f3, oe, vs, T, oT, ts, e1, e2, e3, e4, e5, e6, e7, e8, e9⟩ := f
  exact ⟨fun b o q => k b o (f1 b o q), f2, f3.of_keeps fun b o q _ => ⟨o, k b o q, rfl⟩, oe, vs, T, oT, ts, k _ _ e1, e2, e3, e4, e5, e6, k _ _ e7, e8, e9⟩
/-! ### does one of several classes match -/
section
variable {M : Model} {K : PySem.W.Frag} {h : Heap} {cls : Value}
theorem all_cls : ∀ {cs : List Value} {b : Bool}, PySem.W.exmAny K cls cs = some b → ∀ c ∈ cs, ∃ v, PySem.W.exmOne K cls c = some v
  | c :: r, b, e, x, hx => by
    obtain ⟨b1, d1, h1, h2, _⟩ := PySem.W.exmAny_cons e
    rcases List.mem_cons.mp hx with rfl | hx
    · exact ⟨_, h1⟩
    · exact all_cls h2 x hx
section
variable {A : Around} {E : Value → Shared → Prop} {s : Shared}
theorem loop_exc (X : K.In h) (k0 : ∀ b o, h.get? b = some o → s.heap.get? b = some o) {R : PUnit → Shared → Prop} (r : R ⟨⟩ s) : ∀ l : List Value, (∀ c ∈ l, ∃ v, PySem.W.exmOne K cls c = some v) →
    wpAny M A (forIn l PUnit.unit fun c _ => do
        if (!(← isExcClass c)) = true then do
          rule "try.except-non-exception-class"
          raiseErrorWords "TypeError" "catching classes that do not inherit from BaseException is not allowed"
          pure (ForInStep.yield PUnit.unit)
        else pure (ForInStep.yield PUnit.unit)) R E s := by
  intro l
  induction l with
  | nil => exact fun _ => wpAny_pure r
  | cons c l ih =>
    intro hl
    obtain ⟨v, hv⟩ := hl c (List.mem_cons_self ..)
    obtain ⟨i1, _⟩ := PySem.W.exm_cls (M := M) X hv
    rw [List.forIn_cons]
    refine wpAny_bind (wpAny_bind ((i1.keeps k0).here ?_))
    simp only [Bool.not_true, Bool.false_eq_true, if_false]
    exact wpAny_pure (ih fun x hx => hl x (List.mem_cons_of_mem _ hx))
theorem loop_sub (X : K.In h) (k0 : ∀ b o, h.get? b = some o → s.heap.get? b = some o) {R : Option Bool × Unit → Shared → Prop} : ∀ (l : List Value) (b : Bool), PySem.W.exmAny K cls l = some b → R (if b = true then (some true, ()) else (none, ())) s →
    wpAny M A (forIn l ((none, ()) : Option Bool × Unit) fun c _ => do
        if (← isSubtype cls c) = true then pure (ForInStep.done (some true, ())) else pure (ForInStep.yield (none, ()))) R E s := by
  intro l
  induction l with
  | nil =>
    intro b e r
    have : some false = some b := e
    cases this
    exact wpAny_pure r
  | cons c l ih =>
    intro b e r
    obtain ⟨b1, d1, h1, h2, rfl⟩ := PySem.W.exmAny_cons e
    obtain ⟨_, S1⟩ := PySem.W.exm_cls (M := M) X h1
    rw [List.forIn_cons]
    refine wpAny_bind (wpAny_bind ((S1.keeps k0).here ?_))
    cases b1 with
    | true =>
      rw [Bool.true_or] at r
      simp only [if_true]
      exact wpAny_pure (wpAny_pure r)
    | false =>
      rw [Bool.false_or] at r
      simp only [Bool.false_eq_true, if_false]
      exact wpAny_pure (ih _ h2 r)
end
theorem match_list {cs : List Value} {b : Bool} {tp e : Addr} (X : K.In h) (LT : PySem.W.Looks M h (typeOf (.ref e)) cls) (hp : h.get? tp = some { cls := .type "tuple", data := .seq cs.toArray }) (hx : PySem.W.exmAny K cls cs = some b) :
    PySem.W.Looks M h (excMatches (.ref e) (.ref tp)) b := by
  intro A Q E s k0 q
  have L0 : PySem.W.Looks M h (isInstance (.ref tp) (.type "tuple")) true := ((PySem.W.Looks.ld hp).andThen .now).andThen (PySem.W.Looks.of_pure isSubtype_tuple_tuple)
  have hp' := k0 _ _ hp
  unfold excMatches
  refine wpAny_bind ((L0.keeps k0).here ?_)
  rw [if_pos rfl]
  have ec : ((some cs.toArray).getD #[]).toList = cs := by simp
  refine wpAny_bind ?_
  refine wpAny_seqItems hp' rfl ?_
  refine wpAny_bind (wpAny_pure ?_)
  show wpAny _ _ (do
      forIn ((some cs.toArray).getD #[]).toList PUnit.unit _
      _) _ _ _
  rw [ec]
  refine wpAny_bind (loop_exc X k0 ?_ cs (all_cls hx))
  refine wpAny_bind ((LT.keeps k0).here ?_)
  refine wpAny_bind (loop_sub X k0 cs b hx ?_)
  cases b with
  | true => exact wpAny_pure q
  | false => exact wpAny_pure q
end
/-! ### the rule -/
/-- classes by their names -/
inductive ClsL (X : Cx) : List Expr → List Value → Prop
  | nil : ClsL X [] []
  | cons {x : Str} {c : Value} {p : Pos} {es : List Expr} {cs : List Value} : Names X x c → ClsL X es cs → ClsL X (.Name x p :: es) (c :: cs)
theorem ClsL.suite {X : Cx} {a : Addr} {pn : List (Addr × Obj)} : ∀ {es : List Expr} {cs : List Value}, ClsL X es cs → ClsL (X.suite a pn) es cs
  | _, _, .nil => .nil
  | _, _, .cons hc r => .cons (X := X.suite a pn) hc r.suite
theorem cls_read {Y : Cx} {pins : List (Addr × Obj)} {σ : St} {H : Hp} {s : Shared} (I : Inv Y pins σ H s) {pos : Pos} {E : Value → Shared → Prop} : ∀ {es : List Expr} {cs : List Value} {Q : List Value → Shared → Prop}, ClsL Y es cs → Q cs s →
    wpAny (model Y.prog Y.w) Y.A (spliced (backTo pos (starEach es Y.env))) Q E s
  | _, _, _, .nil, q => wpAny_items_nil q
  | _, _, Q, .cons (c := c) (es := es) (cs := cs) hc r, q => wpAny_items_cons (by
      have rest : wpAny (model Y.prog Y.w) Y.A (spliced (backTo pos (starEach es Y.env))) (fun vs s2 => Q (c :: vs) s2) E s := cls_read I r q
      obtain ⟨hg, hd, hm | ⟨hm, hv, hn⟩⟩ := hc
      · exact ld_glob I hg hm rest hd
      · exact ld_blt I hg hm hv rest hn hd)
theorem ClsL.len {X : Cx} : ∀ {es : List Expr} {cs : List Value}, ClsL X es cs → cs.length = es.length
  | _, _, .nil => rfl
  | _, _, .cons _ r => by rw [List.length_cons, List.length_cons, r.len]
/-- what is pinned is tracked from now on -/
theorem inv_hold {X : Cx} {pins : List (Addr × Obj)} {σ : St} {H : Hp} {s : Shared} {a : Addr} {oe : Obj} {vs : Array Value} {cls : Value} {d : Option Addr} (I : Inv X ((a, oe) :: pins) σ H s) (hm : ∀ p, p ∈ (a, oe) :: (X.pn ++ pins) → p ∈ X.pn ++ ((a, oe) :: pins)) (z : Zc cls d oe) (hd : oe.data = .fields vs)
    (n0 : X.s_0.heap.get? a = none) (np : ∀ p ∈ X.pn ++ pins, p.1 ≠ a) : Inv X pins σ (upd H a (exh cls d a)) s := by
  obtain ⟨e, n, ne, nf, dc⟩ := I.pin (a, oe) (hm _ (List.mem_cons_self ..))
  have ne : a ≠ X.env.locals := ne
  have n : H a = none := n
  have old : ∀ b o, X.s_0.heap.get? b = some o → b ≠ a := fun b o q z => by
    rw [z, n0] at q
    cases q
  refine ⟨I.ok, I.os, I.bare, ⟨I.base.keep, I.base.slot, fun b o q m hx => ?_, I.base.there, fun b xs q => ?_, fun b o u q => ?_, fun b ps q => ?_⟩, I.loc, I.cell, ?_, fun x c q => ?_, fun p hp => ?_, ?_, I.len⟩
  · rw [upd_ne (old b o q)]
    exact I.base.free b o q m hx
  · have z := I.base.tups b xs q
    rw [upd_ne (ne_of_none z n)]
    exact z
  · have z := I.base.frzs b o u q
    rw [upd_ne (ne_of_none z n)]
    exact z
  · obtain ⟨m, z⟩ := I.base.tbls b ps q
    exact ⟨m, by rw [upd_ne (ne_of_none z n)]; exact z⟩
  · rw [upd_ne ne.symm]
    exact I.free
  · have nc : c ≠ a := fun z => by
      obtain ⟨v, o, q1, q2⟩ := I.cell x c q
      rw [z] at q1
      have e' : s.heap.get? a = some oe := e
      rw [e'] at q1
      cases q1
      rw [hd] at q2
      cases q2
    rw [upd_ne nc]
    exact I.freeC x c q
  · obtain ⟨e1, e2, e3, e4, e5⟩ := I.pin p (hm p (List.mem_cons_of_mem _ hp))
    exact ⟨e1, by rw [upd_ne (np p hp)]; exact e2, e3, e4, e5⟩
  · exact I.hok.laidN (fun _ _ q => q) n (exh_ok e z hd)
/-- what the clause wishes of an exception of the body: it is of one of the classes; behind the suite it stands at a -/
def wKeep (K : PySem.W.Frag) (n : Nat) (cs : List Value) (i : Nat) (ts : Addr → Value → Option Addr → TS) (D : Ends) : WX := fun cls d σ H => σ.length = n → PySem.W.exmAny K cls cs = some true ∧
  ∀ a, H a = none → ts a cls d { nx := fun σ' H' => D.nx (σ'.set i none) (upd H' a (exh cls d a)), rt := fun _ _ => False } (σ.set i (some (.ref a))) H
section
variable {X : Cx} {n : Str} {cs : List Value} {es : List Expr} {kx i : Nat} {body suite : List Stmt} {b0 : Stmt} {tpos pos hpos : Pos} {tb : WX → TS} {ts : Addr → Value → Option Addr → TS}
theorem ps_try_keep (hs : X.stack = X.env :: X.outer) (hf : X.env.frame = some X.env.locals) (hex : X.ex = []) (hN : X.N.Nodup) (hi : X.N[i]? = some n) (hln : X.env.kindOf n = some .local) (hc : ClsL X es cs) (hl : es.length ≤ 1000)
    (hb : ∀ (W : WX) (pn : List (Addr × Obj)) (xe : Value → Shared → Prop), Takes (X.tr pn xe) W → PassesOwn (model X.prog X.w) X.A X.env xe → PSs (X.tr pn xe) body (tb W))
    (hsu : ∀ (a : Addr) (oe : Obj) (cls : Value) (d : Option Addr) (pn : List (Addr × Obj)), Zc cls d oe → (∃ vs, oe.data = .fields vs) → PSs (X.suite a ((a, oe) :: pn)) (b0 :: suite) (ts a cls d)) :
    PS X (.Try body [.ExceptHandler (some (.Tuple es kx tpos)) (some n) (b0 :: suite) hpos] [] [] pos) (fun D σ H => tb (wKeep X.K X.N.length cs i ts D) D σ H) := by
  refine ⟨fun pins s σ H D I h => ?_⟩
  have ok := I.ok
  have hfr : X.A.frames = some (X.env :: X.outer) := by rw [ok.frames, hs]
  have loc : Loc X.env.scope n := .inl hln
  have B0 := hb (wKeep X.K X.N.length cs i ts D) (X.pn ++ pins) (fun e s1 => wpAny (model X.prog X.w) X.A (noteFrame e X.env) (fun _ s2 => wpAny (model X.prog X.w) X.A (setFlight e none) (fun _ s3 =>
    wpAny (model X.prog X.w) X.A (handleBy e X.env [.ExceptHandler (some (.Tuple es kx tpos)) (some n) (b0 :: suite) hpos]) (SP X pins D) X.xe s3) X.xe s2) X.xe s1)
  refine wpAny_Try_except (wpAny_mono ((B0 (fun u s' caught => ?_) PassesOwn.looking).run [] s σ H D (I.toTry _) h) (fun f s1 went => ?_) fun _ _ z => z)
  · obtain ⟨a, B, sI, pins', σ', H', cls, d, rfl, J', nb, up, sky, na, os, ag, hW⟩ := caught
    obtain ⟨hit, hyes⟩ := hW J'.len
    have J : Inv X pins σ' H' sI := J'.ofTry ok
    show wpAny (model X.prog X.w) X.A (noteFrame (.ref a) X.env) _ _ _
    refine Sky.land Zc.steady hfr hf (by rw [← hs]; exact sky) fun h3 fl3 up3 => ?_
    have J3 : Inv X pins σ' H' { s' with heap := h3 } := J.landed nb fl3.1 (up.trans up3) os ag
    obtain ⟨oe3, vs3, he3, hz3, hd3⟩ := fl3.there
    have nfr : a ∉ frs (X.env :: X.outer) := fun hm => by
      obtain ⟨_, o, q, nd⟩ := fl3.2.2.1.mem hm
      rw [he3] at q
      cases q
      exact nd _ hd3
    have nL : a ≠ X.env.locals := fun z => nfr (List.mem_filterMap.mpr ⟨X.env, List.mem_cons_self, by rw [hf, z]⟩)
    have nF : a ∉ X.fs := fun hm => by
      obtain ⟨e, he, q⟩ := List.mem_filterMap.mp hm
      exact nfr (List.mem_filterMap.mpr ⟨e, List.mem_cons_of_mem _ he, q⟩)
    have nI : sI.heap.get? a = none := by
      cases q : sI.heap.get? a with
      | none => rfl
      | some o =>
        have z := nb a o q (by rw [hs]; exact nfr)
        rw [fl3.2.1] at z
        cases z
    have n0 : X.s_0.heap.get? a = none := by
      cases q : X.s_0.heap.get? a with
      | none => rfl
      | some o =>
        obtain ⟨o', z⟩ := J.base.there a o q (by rw [hex]; exact fun z => nomatch z)
        rw [nI] at z
        cases z
    have np : ∀ p ∈ X.pn ++ pins, p.1 ≠ a := fun p hp z => by
      have q := (J.pin p hp).1
      rw [z, nI] at q
      cases q
    have S3 := J3.suite he3 hd3 na nL nF
    refine wpAny_handleBy_cons (codeAny_handlers_test ?_) (by intro q; cases q)
    refine wpAny_Tuple (cls_read S3 hc.suite ⟨by rw [hc.len, sizeLine_eq]; omega, ?_⟩)
    have k5 : ∀ b o, h3.get? b = some o → (h3.push { cls := .type "tuple", data := .seq cs.toArray }).get? b = some o := fun _ _ z => Heap.get?_push_of_some _ z
    have LT : PySem.W.Looks (model X.prog X.w) (h3.push { cls := .type "tuple", data := .seq cs.toArray }) (typeOf (.ref a)) cls := fun A Q E s k q => wpAny_typeOf_ref (k _ _ (k5 _ _ he3)) (by rw [hz3.1]; exact q)
    refine (match_list (M := model X.prog X.w) (J3.kIn.keeps k5) LT (Heap.get?_push_size h3 rfl) hit).here ?_
    refine codeAny_handlers_suite_as ?_
    refine HandSPX.lands_againZ (flies_keeps fl3 k5) fun h4 fl4 up4 => ?_
    have J4 : Inv X pins σ' H' { s' with heap := h4 } := J.landed nb fl4.1 (((up.trans up3).trans (Heap.UpToSlots.of_keeps k5)).trans up4) os ag
    obtain ⟨oe4, vs4, he4, hz4, hd4⟩ := fl4.there
    have S4 := J4.suite he4 hd4 na nL nF
    refine store_ok (X := X.suite a ((a, oe4) :: (X.pn ++ pins))) (v := .ref a) S4 hN hi loc rfl (fun s5 S5 => ?_) (.inr hln)
    refine wpAny_mono ((hsu a oe4 cls d (X.pn ++ pins) hz4 ⟨_, hd4⟩).run [] s5 _ H' _ S5 (hyes a na)) (fun f s6 hsp => ?_) (fun _ _ z => False.elim z)
    cases f with
    | next =>
      obtain ⟨σ6, H6, S6, q6⟩ := hsp
      have K6 : Inv X ((a, oe4) :: pins) σ6 H6 s6 := ⟨ok, S6.os, S6.bare, S6.base, S6.loc, S6.cell, S6.free, S6.freeC, fun p hp => S6.pin p (by
        show p ∈ ((a, oe4) :: (X.pn ++ pins)) ++ []
        rw [List.append_nil]
        rcases List.mem_append.mp hp with z | z
        · exact List.mem_cons_of_mem _ (List.mem_append_left _ z)
        · rcases List.mem_cons.mp z with z | z
          · rw [z]
            exact List.mem_cons_self ..
          · exact List.mem_cons_of_mem _ (List.mem_append_right _ z)), S6.hok, S6.len⟩
      refine gone_ok K6 hN hi hln fun s7 J7 => ⟨_, _, inv_hold J7 (fun p hp => ?_) hz4 hd4 n0 np, q6⟩
      rcases List.mem_cons.mp hp with z | z
      · rw [z]
        exact List.mem_append_right _ (List.mem_cons_self ..)
      · rcases List.mem_append.mp z with z | z
        · exact List.mem_append_left _ z
        · exact List.mem_append_right _ (List.mem_cons_of_mem _ z)
    | brk =>
      obtain ⟨_, _, _, z⟩ := hsp
      exact False.elim z
    | cont =>
      obtain ⟨_, _, _, z⟩ := hsp
      exact False.elim z
    | ret u =>
      obtain ⟨_, _, _, _, _, z⟩ := hsp
      exact False.elim z
  · cases f with
    | next =>
      obtain ⟨σ', H', J', q⟩ := went
      exact wpAny_execs_nil ⟨σ', H', J'.ofTry ok, q⟩
    | brk =>
      obtain ⟨σ', H', J', q⟩ := went
      exact ⟨σ', H', J'.ofTry ok, q⟩
    | cont =>
      obtain ⟨σ', H', J', q⟩ := went
      exact ⟨σ', H', J'.ofTry ok, q⟩
    | ret u =>
      obtain ⟨v, σ', H', J', r, q⟩ := went
      exact ⟨v, σ', H', J'.ofTry ok, r, q⟩
end
/-! ### raise C(..), C with its own __init__ -/
theorem pmk_own2 {X : Cx} {e : Expr} {te : TE} (hx : X.ex = []) (he : PE X e te) :
    PMk X e (fun σ H Q => te σ H fun x H1 => ∃ (a C : Addr) (od : Option Addr), x = .ref a ∧ H1 a = some (exo a C od) ∧ Fr0 X.H_0 a ∧ Raises X (.ref C) ∧ Q (.ref C) od (delH H1 a)) := by
  intro pins s σ H Q I h
  refine wpAny_mono (he.run pins s σ H _ I h) (fun u s1 hu => ?_) fun _ _ x => x
  obtain ⟨v, H1, I1, r1, a, C, od, rfl, ha, h0, hr, q⟩ := hu
  cases r1
  obtain ⟨t1, ho⟩ := exo_at I1.hok ha
  obtain ⟨G, gs, ga, J⟩ := I1.untrack ha h0 hx
  exact ⟨a, _, _, { s1 with heap := G }, delH H1 a, .ref C, od, rfl, J, gs, ga, ho, ⟨rfl, rfl⟩, rfl, rfl, delH_same, rfl, I1.bare, hr, q⟩
/-! ### isinstance of a caught one -/
def rIsC (K : PySem.W.Frag) : List V → Hp → VK → Prop := fun xs H Q => ∃ (a C : Addr) (B newId initId : String) (bm : List Value) (c : V) (u : Value) (b : Bool),
  xs = [.ref a, c] ∧ ClsV c u ∧ OxC K C B newId initId bm ∧ H a = some (exh (.ref C) none a) ∧ PySem.W.kitOne K (.ref C) u = some b ∧ Q (.bl b) H
theorem call_isC {X : Cx} : CallR X (.builtin "isinstance") (rIsC X.K) := by
  intro pins s σ H xs us Q I r h
  obtain ⟨a, C, B, newId, initId, bm, c, u, b, rfl, k, T, ea, e, q⟩ := h
  obtain ⟨u1, u2, rfl, r1, r2⟩ := vals2 r
  have e2 := k.eq r2
  subst e2
  obtain rfl : u1 = Value.ref a := r1
  obtain ⟨oe, vs, ho, hz, hd⟩ := exh_at I.hok ea
  obtain ⟨cd, hcl, _⟩ := T.data
  have some_ : (PySem.W.clsIn X.K C).isSome = true := by rw [hcl]; rfl
  have J : PySem.W.InstAt s.heap a oe C none := ⟨ho, hz.1, by unfold PySem.W.notCls; rw [hd], by rw [hz.2]; exact trivial⟩
  exact PySem.W.kia_one (PySem.W.kitx_exc some_ T.ga T.gg T.exC T.ca T.cn T.ct T.om) I.kIn J e (fun z => nomatch z) fun tk => ⟨.bl b, H, I.tok tk, rfl, q⟩
end EV
end L2

set_option Elab.async false
set_option linter.all false
set_option maxRecDepth 100000
set_option maxHeartbeats 4000000
/-! Data of any form; is_number of it. -/
namespace K34
open PySem L2 L2.EV
mutual
/-- v stands for d, all of its lists and tuples tracked -/
inductive Da (H : Hp) : V → PyData → Prop
  | non : Da H .non .none
  | bl (b : Bool) : Da H (.bl b) (.bool b)
  | int (i : Int) : Da H (.int i) (.int i)
  | str (x : Str) : Da H (.str x) (.str x)
  | lst {a : Addr} {xs : List V} {ds : List PyData} : H a = some (.lst xs) → DaAll H xs ds → Da H (.ref a) (.list ds)
  | tup {a : Addr} {xs : List V} {ds : List PyData} : H a = some (.tup xs) → DaAll H xs ds → Da H (.ref a) (.tuple ds)
inductive DaAll (H : Hp) : List V → List PyData → Prop
  | nil : DaAll H [] []
  | cons {v : V} {vs : List V} {d : PyData} {ds : List PyData} : Da H v d → DaAll H vs ds → DaAll H (v :: vs) (d :: ds)
end
mutual
theorem Da.same {H H' : Hp} (s : Same H H') : ∀ (d : PyData) (v : V), Da H v d → Da H' v d
  | .none, _, h => by cases h; exact .non
  | .bool b, _, h => by cases h; exact .bl b
  | .int i, _, h => by cases h; exact .int i
  | .str x, _, h => by cases h; exact .str x
  | .list ds, _, h => by
    cases h with
    | lst e ha => exact .lst (s _ _ e) (DaAll.same s ds _ ha)
  | .tuple ds, _, h => by
    cases h with
    | tup e ha => exact .tup (s _ _ e) (DaAll.same s ds _ ha)
  | .dict _, _, h => by cases h
theorem DaAll.same {H H' : Hp} (s : Same H H') : ∀ (ds : List PyData) (vs : List V), DaAll H vs ds → DaAll H' vs ds
  | [], _, h => by cases h; exact .nil
  | d :: ds, _, h => by
    cases h with
    | cons h1 h2 => exact .cons (Da.same s d _ h1) (DaAll.same s ds _ h2)
end
mutual
theorem Da.dp {K : PySem.W.Frag} {H : Hp} : ∀ (d : PyData) (v : V), Da H v d → Dp K H v d
  | .none, _, h => by cases h; exact .non
  | .bool b, _, h => by cases h; exact .bl b
  | .int i, _, h => by cases h; exact .int i
  | .str x, _, h => by cases h; exact .str x
  | .list ds, _, h => by
    cases h with
    | lst e ha => exact .lst (SqL.of e) (DaAll.dp ds _ ha)
  | .tuple ds, _, h => by
    cases h with
    | tup e ha => exact .tup (SqT.of e) (DaAll.dp ds _ ha)
  | .dict _, _, h => by cases h
theorem DaAll.dp {K : PySem.W.Frag} {H : Hp} : ∀ (ds : List PyData) (vs : List V), DaAll H vs ds → DpAll K H vs ds
  | [], _, h => by cases h; exact .nil
  | d :: ds, _, h => by
    cases h with
    | cons h1 h2 => exact .cons (Da.dp d _ h1) (DaAll.dp ds _ h2)
end
theorem DaAll.len {H : Hp} : ∀ {vs : List V} {ds : List PyData}, DaAll H vs ds → vs.length = ds.length
  | _, _, .nil => rfl
  | _, _, .cons _ t => by rw [List.length_cons, List.length_cons, t.len]
theorem DaAll.at_ {H : Hp} : ∀ {vs : List V} {ds : List PyData} {i : Nat} {v : V}, DaAll H vs ds → vs[i]? = some v → ∃ d, ds[i]? = some d ∧ Da H v d
  | _, _, 0, _, .cons h _, e => by
    cases e
    exact ⟨_, rfl, h⟩
  | _, _, i + 1, _, .cons _ t, e => t.at_ (i := i) (by simpa using e)
  | _, _, _, _, .nil, e => by simp at e
theorem DaAll.at' {H : Hp} : ∀ {vs : List V} {ds : List PyData} {i : Nat} {d : PyData}, DaAll H vs ds → ds[i]? = some d → ∃ v, vs[i]? = some v ∧ Da H v d
  | _, _, 0, _, .cons h _, e => by
    cases e
    exact ⟨_, rfl, h⟩
  | _, _, i + 1, _, .cons _ t, e => t.at' (i := i) (by simpa using e)
  | _, _, _, _, .nil, e => by simp at e
theorem DaAll.app {H : Hp} : ∀ {vs ws : List V} {ds es : List PyData}, DaAll H vs ds → DaAll H ws es → DaAll H (vs ++ ws) (ds ++ es)
  | _, _, _, _, .nil, q => q
  | _, _, _, _, .cons h t, q => .cons h (t.app q)
theorem DaAll.drop {H : Hp} : ∀ {vs : List V} {ds : List PyData} (n : Nat), DaAll H vs ds → DaAll H (vs.drop n) (ds.drop n)
  | _, _, 0, h => h
  | _, _, n + 1, .nil => .nil
  | _, _, n + 1, .cons _ t => t.drop n
theorem DaAll.take {H : Hp} : ∀ {vs : List V} {ds : List PyData} (n : Nat), DaAll H vs ds → DaAll H (vs.take n) (ds.take n)
  | _, _, 0, h => .nil
  | _, _, n + 1, .nil => .nil
  | _, _, n + 1, .cons h t => .cons h (t.take n)
theorem DaAll.rev {H : Hp} : ∀ {vs : List V} {ds : List PyData}, DaAll H vs ds → DaAll H vs.reverse ds.reverse
  | _, _, .nil => .nil
  | _, _, .cons h t => by
    rw [List.reverse_cons, List.reverse_cons]
    exact t.rev.app (.cons h .nil)
/-! ### of which type -/
def isTup : PyData → Bool
  | .tuple _ => true
  | _ => false
def isInt : PyData → Bool
  | .int _ => true
  | .bool _ => true
  | _ => false
def isBl : PyData → Bool
  | .bool _ => true
  | _ => false
theorem Da.ty {K : PySem.W.Frag} {H : Hp} {v : V} {d : PyData} (h : Da H v d) : ∃ t : Value, TyX K H v t ∧ PySem.W.kitOne K t (.type "tuple") = some (isTup d) ∧ PySem.W.kitOne K t (.type "int") = some (isInt d) ∧ PySem.W.kitOne K t (.type "bool") = some (isBl d) := by
  cases h with
  | non => exact ⟨_, .base .non, kit_ty (r := false) (by decide +kernel), kit_ty (r := false) (by decide +kernel), kit_ty (r := false) (by decide +kernel)⟩
  | bl b => exact ⟨_, .base (.bl b), kit_ty (r := false) (by decide +kernel), kit_ty (r := true) (by decide +kernel), kit_ty (r := true) (by decide +kernel)⟩
  | int i => exact ⟨_, .base (.int i), kit_ty (r := false) (by decide +kernel), kit_ty (r := true) (by decide +kernel), kit_ty (r := false) (by decide +kernel)⟩
  | str x => exact ⟨_, .base (.str x), kit_ty (r := false) (by decide +kernel), kit_ty (r := false) (by decide +kernel), kit_ty (r := false) (by decide +kernel)⟩
  | lst e _ => exact ⟨_, .base (.lst e), kit_ty (r := false) (by decide +kernel), kit_ty (r := false) (by decide +kernel), kit_ty (r := false) (by decide +kernel)⟩
  | tup e _ => exact ⟨_, .base (.tup e), kit_ty (r := true) (by decide +kernel), kit_ty (r := false) (by decide +kernel), kit_ty (r := false) (by decide +kernel)⟩
def isSt : PyData → Bool
  | .str _ => true
  | _ => false
theorem Da.tyS {K : PySem.W.Frag} {H : Hp} {v : V} {d : PyData} (h : Da H v d) : ∃ t : Value, TyX K H v t ∧ PySem.W.kitOne K t (.type "str") = some (isSt d) := by
  cases h with
  | non => exact ⟨_, .base .non, kit_ty (r := false) (by decide +kernel)⟩
  | bl b => exact ⟨_, .base (.bl b), kit_ty (r := false) (by decide +kernel)⟩
  | int i => exact ⟨_, .base (.int i), kit_ty (r := false) (by decide +kernel)⟩
  | str x => exact ⟨_, .base (.str x), kit_ty (r := true) (by decide +kernel)⟩
  | lst e _ => exact ⟨_, .base (.lst e), kit_ty (r := false) (by decide +kernel)⟩
  | tup e _ => exact ⟨_, .base (.tup e), kit_ty (r := false) (by decide +kernel)⟩
/-! ### numbers -/
def numD (m : Int) : PyData → Option Int
  | .int i => if 0 ≤ i ∧ i < m then some i else none
  | _ => none
theorem numD_some {m i : Int} {d : PyData} (h : numD m d = some i) : d = .int i ∧ 0 ≤ i ∧ i < m := by
  cases d with
  | int j =>
    have h : (if 0 ≤ j ∧ j < m then some j else none) = some i := h
    by_cases c : 0 ≤ j ∧ j < m
    · rw [if_pos c] at h
      cases h
      exact ⟨rfl, c⟩
    · rw [if_neg c] at h
      cases h
  | _ => cases h
def spNumD : Sp := fun vs H Q _ => ∃ (v : V) (d : PyData) (m : Int), vs = [v, .int m] ∧ Da H v d ∧ Q (.bl (numD m d).isSome) H
section
variable {P : Program} {w : World} {K : PySem.W.Frag} {mg : Str → Option Value} {base : Heap}
theorem ok_numD {f : Addr} {fd : FuncData} (F : Fun K "is_number" "is_number" sNum f fd) (T : TxtF mg) : FnOk P w K mg base CX0 1 f fd ["thing", "many"] spNumD := by
  refine F.ok scNum (fun vs H Q E h => ?_) (fun cdv A outer s H vs Q E hr h => ?_)
  · obtain ⟨v, d, m, rfl, _⟩ := h
    rfl
  · obtain ⟨v, d, m, rfl, da, q⟩ := h
    refine ⟨_, pss_one (ps_ret (pe_and (pe_callB call_isi (by rfl) T.isi PyProof.Rows.boot_isinstance (pa_cons (pv 0) (pa_cons (pe_bltn (v := .ty "int") (by rfl) T.int (by decide +kernel) rfl) pa_nil)))
      (pe_and (pe_not (pe_callB call_isi (by rfl) T.isi PyProof.Rows.boot_isinstance (pa_cons (pv 0) (pa_cons (pe_bltn (v := .ty "bool") (by rfl) T.bool (by decide +kernel) rfl) pa_nil))))
        (pe_one (pe_chain op_le op_lt pe_int (pv 0) (pv 1)))))), ?_⟩
    obtain ⟨t, ty, _, ki, kb⟩ := da.ty (K := K)
    refine ⟨_, rfl, v, .ty "int", t, .type "int", isInt d, rfl, .ty "int", ty, ki, isInt d, rfl, ?_⟩
    cases da with
    | int n =>
      refine iteT ?_
      refine ⟨_, rfl, .int n, .ty "bool", t, .type "bool", false, rfl, .ty "bool", ty, kb, false, rfl, true, rfl, iteT ?_⟩
      refine ⟨_, rfl, 0, n, rfl, rfl, _, rfl, ?_⟩
      have q : Q (.bl (if 0 ≤ n ∧ n < m then some n else none).isSome) H := q
      refine ite2 (fun z => ?_) (fun z => ?_)
      · have z1 : 0 ≤ n := of_decide_eq_true z
        refine ⟨_, rfl, n, m, rfl, rfl, ?_⟩
        by_cases c : n < m
        · rw [if_pos ⟨z1, c⟩] at q
          show Q (.bl (decide (n < m))) H
          rw [decide_eq_true c]
          exact q
        · rw [if_neg (fun k => c k.2)] at q
          show Q (.bl (decide (n < m))) H
          rw [decide_eq_false c]
          exact q
      · have z1 : ¬ 0 ≤ n := fun k => z (decide_eq_true k)
        rw [if_neg (fun k => z1 k.1)] at q
        exact q
    | bl b =>
      refine iteT ?_
      exact ⟨_, rfl, .bl b, .ty "bool", t, .type "bool", true, rfl, .ty "bool", ty, kb, true, rfl, false, rfl, iteF q⟩
    | non => exact iteF q
    | str x => exact iteF q
    | lst e h => exact iteF q
    | tup e h => exact iteF q
end
end K34

set_option Elab.async false
set_option linter.all false
set_option maxRecDepth 100000
set_option maxHeartbeats 4000000
/-! is_piece and is_step of any data. -/
namespace K34
open PySem L2 L2.EV
/-- is_piece of a text -/
def pcS (p : Str) : Bool := decide (1 ≤ p.length) && decide (p.length ≤ 8) && (sl (Txt.removesuffix p ";")).all fun c => decide (c ∈ sgs)
def pcD : PyData → Bool
  | .str p => pcS p
  | _ => false
/-- a step by itself -/
def stpD : PyData → Option T3
  | .tuple [a, .str p, b] => match numD 6 a, numD 6 b with
    | some i, some j => if pcS p = true ∧ Txt.endswith p ";" = decide (j = 0) then some (i, p, j) else none
    | _, _ => none
  | _ => none
theorem stpD_some {d : PyData} {x : T3} (h : stpD d = some x) : d = .tuple [.int x.1, .str x.2.1, .int x.2.2] ∧ 0 ≤ x.1 ∧ x.1 < 6 ∧ 0 ≤ x.2.2 ∧ x.2.2 < 6 := by
  match d, h with
  | .tuple [a, .str p, b], h =>
    have h : (match numD 6 a, numD 6 b with
      | some i, some j => if pcS p = true ∧ Txt.endswith p ";" = decide (j = 0) then some (i, p, j) else none
      | _, _ => none) = some x := h
    cases ea : numD 6 a with
    | none =>
      rw [ea] at h
      cases h
    | some i =>
      cases eb : numD 6 b with
      | none =>
        rw [ea, eb] at h
        cases h
      | some j =>
        rw [ea, eb] at h
        have h : (if pcS p = true ∧ Txt.endswith p ";" = decide (j = 0) then some (i, p, j) else none) = some x := h
        by_cases c : pcS p = true ∧ Txt.endswith p ";" = decide (j = 0)
        · rw [if_pos c] at h
          cases h
          obtain ⟨rfl, a1, a2⟩ := numD_some ea
          obtain ⟨rfl, b1, b2⟩ := numD_some eb
          exact ⟨rfl, a1, a2, b1, b2⟩
        · rw [if_neg c] at h
          cases h
/-- texts that are no long ones -/
def szT (d : PyData) : Prop := ∀ s, d = .str s → s.length ≤ 1000
/-- a step's text is no long one -/
def szS (d : PyData) : Prop := ∀ a x b, d = .tuple [a, x, b] → szT x
def spPcD : Sp := fun vs H Q _ => ∃ (v : V) (d : PyData), vs = [v] ∧ Da H v d ∧ szT d ∧ ∀ H', Same H H' → Q (.bl (pcD d)) H'
def spStpD : Sp := fun vs H Q _ => ∃ (v : V) (d : PyData), vs = [v] ∧ Da H v d ∧ szS d ∧ ∀ H', Same H H' → Q (.bl (stpD d).isSome) H'
section
variable {P : Program} {w : World} {K : PySem.W.Frag} {mg : Str → Option Value} {base : Heap}
theorem ok_pcD {f : Addr} {fd : FuncData} (F : Fun K "is_piece" "is_piece" sPc f fd) (T : TxtF mg) : FnOk P w K mg base CX0 1 f fd ["thing"] spPcD := by
  refine F.ok scPc (fun vs H Q E h => ?_) (fun cdv A outer s H vs Q E hr h => ?_)
  · obtain ⟨v, d, rfl, _⟩ := h
    rfl
  · obtain ⟨v, d, rfl, da, sz, q⟩ := h
    obtain ⟨ts, eS⟩ := T.signs
    obtain ⟨tm, eM⟩ := T.mSigns
    refine ⟨_, pss_cons (ps_if (pw_or (pt_not (pt_val (pe_callB call_isi (by rfl) T.isi PyProof.Rows.boot_isinstance (pa_cons (pv 0) (pa_cons (pe_bltn (v := .ty "str") (by rfl) T.str (by decide +kernel) rfl) pa_nil)))))
        (pw_or1 (pt_not (pt_chain op_le op_le pe_int (pe_callB call_len_str (by rfl) T.len PySem.boot_len (pa_cons (pv 0) pa_nil)) (pe_glob (v := .int 8) (by rfl) eM ⟨_, rfl⟩))))).pt
        (pss_one (ps_ret pe_bl)) pss_nil)
      (pss_one (ps_ret (pe_callB (cr_all rfl) (by rfl) T.all (by decide +kernel) (pa_cons (pe_lc (own := [("sign", 1)]) (g := gName 1) rfl scPc.nd
        (pi_str (pe_m1 PySem.F.slot_str_removesuffix PySem.F.type_str_removesuffix mt_removesuffix (pv 0) pe_str)) (blkOk_by (N := ["thing", "sign"]) (sc := defScope sPc) (by decide +kernel))
        (fun _ _ _ _ _ => pg_name (i := 1) scPc.nd rfl (Or.inl rfl)) (fun _ _ _ _ _ => pts_nil) (fun _ _ _ _ _ => pe_cmpR op_in_sign (pv 1) (pe_glob (v := .str "abcdefghijklmnopqrstuvwxyz0123456789@") (by rfl) eS ⟨_, rfl⟩) (by rfl))) pa_nil)))), ?_⟩
    obtain ⟨t, ty, kt⟩ := da.tyS (K := K)
    refine ⟨_, rfl, v, .ty "str", t, .type "str", isSt d, rfl, .ty "str", ty, kt, isSt d, rfl, ?_⟩
    cases da with
    | str p =>
      refine iteF ?_
      have szp := sz p rfl
      have q : ∀ H', Same H H' → Q (.bl (pcS p)) H' := q
      refine ⟨.str p, rfl, p, rfl, by rw [sizeLine_eq]; omega, 1, p.length, rfl, rfl, _, rfl, ?_⟩
      by_cases c1 : 1 ≤ p.length
      · refine iteT' (decide_eq_true (by omega)) ⟨p.length, 8, rfl, rfl, _, rfl, ?_⟩
        by_cases c2 : p.length ≤ 8
        · refine iteF' (by rw [decide_eq_true (by omega)]; rfl) ?_
          refine ⟨_, rfl, ⟨p, rfl⟩, p, ";", rfl, rfl, by rw [sizeLine_eq]; omega, _, rfl, fun D hD => ?_⟩
          refine lc_it walk_str (fun i H' => H' D = some (.lst ((((sl (Txt.removesuffix p ";")).take i).map fun c => decide (c ∈ sgs)).map V.bl)) ∧ ∀ b o, H b = some o → H' b = some o) ⟨upd_same, fun b o z => same_upd hD b o z⟩ (fun _ _ _ _ => trivial) ?_ ?_
          · rintro i x H1 H2 hi ⟨hl, kp⟩ ⟨rfl, c, hc, rfl⟩
            refine ⟨rfl, ⟨_, rfl, c, _, rfl, rfl, ?_⟩⟩
            have hc' : (sl (Txt.removesuffix p ";"))[i]? = some c := by simpa using hc
            refine ⟨_, hl, ?_, ?_, fun b o z => ?_⟩
            · rw [List.length_map, List.length_map, List.length_take, sizeLine_eq]
              have l1 := PyProof.Rows.len_removesuffix p ";"
              have l2 : (Txt.removesuffix p ";").cps.size = (Txt.removesuffix p ";").length := rfl
              omega
            · rw [List.take_succ, hc', List.map_append, List.map_append]
              exact upd_same
            · rw [upd_ne (ne_of_none z hD)]
              exact kp b o z
          · rintro H1 ⟨hl, kp⟩
            refine ⟨D, _, rfl, SqL.of hl, ?_⟩
            have z := q H1 kp
            unfold pcS at z
            rw [decide_eq_true c1, decide_eq_true c2, Bool.true_and, Bool.true_and] at z
            have e9 : (sl (Txt.removesuffix p ";")).take (Txt.removesuffix p ";").cps.size = sl (Txt.removesuffix p ";") := by
              have e : (Txt.removesuffix p ";").cps.size = (sl (Txt.removesuffix p ";")).length := by show _ = (Txt.removesuffix p ";").cps.toList.length; simp
              rw [e, List.take_length]
            rw [e9, List.all_map]
            exact z
        · refine iteT' (by rw [decide_eq_false (by omega)]; rfl) ?_
          have z := q H (Same.refl H)
          unfold pcS at z
          rw [decide_eq_false c2, Bool.and_false, Bool.false_and] at z
          exact z
      · refine iteF' (decide_eq_false (by omega)) ⟨_, rfl, iteT ?_⟩
        have z := q H (Same.refl H)
        unfold pcS at z
        rw [decide_eq_false c1, Bool.false_and, Bool.false_and] at z
        exact z
    | bl b => exact iteT (q H (Same.refl H))
    | non => exact iteT (q H (Same.refl H))
    | int i => exact iteT (q H (Same.refl H))
    | lst e h => exact iteT (q H (Same.refl H))
    | tup e h => exact iteT (q H (Same.refl H))
theorem ok_stpD {f fN fP : Addr} {fd fdN fdP : FuncData} (F : Fun K "is_step" "is_step" sStep f fd) (T : TxtF mg) (FN : Fun K "is_number" "is_number" sNum fN fdN) (bN : Binds K fdN ["thing", "many"] []) (mN : mg "is_number" = some (.ref fN))
    (FP : Fun K "is_piece" "is_piece" sPc fP fdP) (bP : Binds K fdP ["thing"] []) (mP : mg "is_piece" = some (.ref fP)) : FnOk P w K mg base CX0 2 f fd ["thing"] spStpD := by
  have GN : FnOk P w K mg base CX0 1 fN fdN ["thing", "many"] spNumD := ok_numD FN T
  have GP : FnOk P w K mg base CX0 1 fP fdP ["thing"] spPcD := ok_pcD FP T
  refine F.ok scStep (fun vs H Q E h => ?_) (fun cdv A outer s H vs Q E hr h => ?_)
  · obtain ⟨v, d, rfl, _⟩ := h
    rfl
  · obtain ⟨v, d, rfl, da, sz, q⟩ := h
    obtain ⟨tm, eM⟩ := T.many
    refine ⟨_, pss_cons (ps_if (pw_or (pt_not (pt_val (pe_callB call_isi (by rfl) T.isi PyProof.Rows.boot_isinstance (pa_cons (pv 0) (pa_cons (pe_bltn (v := .ty "tuple") (by rfl) T.tuple (by decide +kernel) rfl) pa_nil)))))
        (pw_or1 (pt_cmpR op_ne (pe_callB call_len_seq (by rfl) T.len PySem.boot_len (pa_cons (pv 0) pa_nil)) pe_int (nomark _)))).pt
        (pss_one (ps_ret pe_bl)) pss_nil)
      (pss_cons (ps_asg (pv 0) (pg_tup rfl (pgs_cons (pg_name (i := 1) scStep.nd rfl (Or.inl rfl)) (pgs_cons (pg_name (i := 2) scStep.nd rfl (Or.inl rfl)) (pgs_cons (pg_name (i := 3) scStep.nd rfl (Or.inl rfl)) pgs_nil)))))
      (pss_cons (ps_if (pw_or (pt_not (pt_val (pe_call GN hr (by rfl) mN FN.kp bN .nil pass0 (pa_cons (pv 1) (pa_cons (pe_glob (v := .int 6) (by rfl) eM ⟨_, rfl⟩) pa_nil)))))
        (pw_or (pt_not (pt_val (pe_call GP hr (by rfl) mP FP.kp bP .nil pass0 (pa_cons (pv 2) pa_nil))))
          (pw_or1 (pt_not (pt_val (pe_call GN hr (by rfl) mN FN.kp bN .nil pass0 (pa_cons (pv 3) (pa_cons (pe_glob (v := .int 6) (by rfl) eM ⟨_, rfl⟩) pa_nil)))))))).pt
        (pss_one (ps_ret pe_bl)) pss_nil)
      (pss_one (ps_ret (pe_cmpR op_eq (pe_m1 PySem.F.slot_str_endswith PySem.F.type_str_endswith mt_endswith (pv 2) pe_str) (pe_cmpR op_eq (pv 3) pe_int (nomark _)) (nomark _)))))), ?_⟩
    obtain ⟨t, ty, kt, _, _⟩ := da.ty (K := K)
    refine ⟨_, rfl, v, .ty "tuple", t, .type "tuple", isTup d, rfl, .ty "tuple", ty, kt, isTup d, rfl, ?_⟩
    cases da with
    | @tup a xs ds e all =>
      refine iteF ?_
      refine ⟨_, rfl, a, _, rfl, .inr (SqT.of e), rfl, _, rfl, ?_⟩
      have ln := all.len
      by_cases h3 : xs.length = 3
      · refine iteF' (by simp [h3]) ?_
        match xs, ds, all, h3 with
        | [x, y, z], [dx, dy, dz], .cons h1 (.cons h2 (.cons h4 .nil)), _ =>
          refine ⟨_, rfl, a, _, rfl, SqT.of e, rfl, _, _, rfl, _, _, rfl, _, _, rfl, rfl, ?_⟩
          have no : (numD 6 dx = none ∨ numD 6 dz = none ∨ pcD dy = false) → stpD (.tuple [dx, dy, dz]) = none := fun c => by
            cases dy with
            | str s =>
              show (match numD 6 dx, numD 6 dz with
                | some i, some j => if pcS s = true ∧ Txt.endswith s ";" = decide (j = 0) then some (i, s, j) else none
                | _, _ => none) = none
              rcases c with c | c | c
              · rw [c]
              · rw [c]
                cases numD 6 dx <;> rfl
              · have c : pcS s = false := c
                rw [c]
                cases numD 6 dx with
                | none => rfl
                | some i =>
                  cases numD 6 dz with
                  | none => rfl
                  | some j => exact if_neg (fun z => nomatch z.1)
            | _ => rfl
          have q0 := q H (Same.refl H)
          refine ⟨_, rfl, x, dx, 6, rfl, h1, _, rfl, ?_⟩
          cases ea : numD 6 dx with
          | none =>
            rw [no (.inl ea)] at q0
            exact iteT q0
          | some i =>
            refine iteF ?_
            refine ⟨_, rfl, y, dy, rfl, h2, sz dx dy dz rfl, fun H1 s1 => ⟨_, rfl, ?_⟩⟩
            have q1 := q H1 s1
            cases ec : pcD dy with
            | false =>
              rw [no (.inr (.inr ec))] at q1
              exact iteT q1
            | true =>
              refine iteF ?_
              refine ⟨_, rfl, z, dz, 6, rfl, Da.same s1 _ _ h4, _, rfl, ?_⟩
              cases eb : numD 6 dz with
              | none =>
                rw [no (.inr (.inl eb))] at q1
                exact iteT q1
              | some j =>
                refine iteF ?_
                cases h2 with
                | str p =>
                  obtain ⟨rfl, _, _⟩ := numD_some eb
                  cases h4
                  refine ⟨_, rfl, ⟨_, rfl⟩, p, _, rfl, rfl, ⟨_, rfl, rfl, rfl, ?_⟩⟩
                  have q1 : Q (.bl (match numD 6 dx, numD 6 (.int j) with
                    | some i, some j => if pcS p = true ∧ Txt.endswith p ";" = decide (j = 0) then some (i, p, j) else none
                    | _, _ => none).isSome) H1 := q1
                  rw [ea, eb] at q1
                  have q1 : Q (.bl (if pcS p = true ∧ Txt.endswith p ";" = decide (j = 0) then some (i, p, j) else none).isSome) H1 := q1
                  have ec : pcS p = true := ec
                  have e1 : decide (V.int j = V.int 0) = decide (j = 0) := by
                    by_cases z : j = 0
                    · rw [z]
                      rfl
                    · rw [decide_eq_false z]
                      exact decide_eq_false fun k => z (V.int.inj k)
                  rw [e1]
                  by_cases c : Txt.endswith p ";" = decide (j = 0)
                  · rw [if_pos ⟨ec, c⟩] at q1
                    rw [c, decide_eq_true rfl]
                    exact q1
                  · rw [if_neg (fun k => c k.2)] at q1
                    rw [decide_eq_false (fun k => c (V.bl.inj k))]
                    exact q1
                | bl b => cases ec
                | non => cases ec
                | int i => cases ec
                | lst e h => cases ec
                | tup e h => cases ec
      · refine iteT' (by simp; omega) ?_
        have z : stpD (.tuple ds) = none := by
          match ds, ln with
          | [], _ => rfl
          | [_], _ => rfl
          | [_, dy], _ => cases dy <;> rfl
          | [_, _, _], l => exact absurd l h3
          | _ :: dy :: _ :: _ :: _, _ => cases dy <;> rfl
        have q0 := q H (Same.refl H)
        rw [z] at q0
        exact q0
    | bl b => exact iteT (q H (Same.refl H))
    | non => exact iteT (q H (Same.refl H))
    | int i => exact iteT (q H (Same.refl H))
    | str x => exact iteT (q H (Same.refl H))
    | lst e h => exact iteT (q H (Same.refl H))
end
end K34

set_option Elab.async false
set_option linter.all false
set_option maxRecDepth 100000
set_option maxHeartbeats 4000000
/-! A caught error that has fields: isinstance, its fields. -/
namespace L2
namespace EV
open PySem PySem.Spec PyProof.Rows _root_.EV
/-- isinstance of a caught one with fields -/
def rIsF (K : PySem.W.Frag) : List V → Hp → VK → Prop := fun xs H Q => ∃ (a C d : Addr) (fs : List (Str × V)) (B newId initId : String) (bm : List Value) (c : V) (u : Value) (b : Bool),
  xs = [.ref a, c] ∧ ClsV c u ∧ OxC K C B newId initId bm ∧ H a = some (exh (.ref C) (some d) a) ∧ H d = some (.xd fs) ∧ PySem.W.kitOne K (.ref C) u = some b ∧ Q (.bl b) H
theorem call_isF {X : Cx} : CallR X (.builtin "isinstance") (rIsF X.K) := by
  intro pins s σ H xs us Q I r h
  obtain ⟨a, C, d, fs, B, newId, initId, bm, c, u, b, rfl, k, T, ea, ed, e, q⟩ := h
  obtain ⟨u1, u2, rfl, r1, r2⟩ := vals2 r
  have e2 := k.eq r2
  subst e2
  obtain rfl : u1 = Value.ref a := r1
  obtain ⟨oe, vs, ho, hz, hd⟩ := exh_at I.hok ea
  have hx : ObjOk X.prog X.w H s.heap d (.xd fs) := I.hok d _ ed
  obtain ⟨mA, hns, hr⟩ := hx
  obtain ⟨od, hod, hl⟩ := lookIn_ns hns
  obtain ⟨cd, hcl, _⟩ := T.data
  have some_ : (PySem.W.clsIn X.K C).isSome = true := by rw [hcl]; rfl
  have J : PySem.W.InstAt s.heap a oe C (some od) := ⟨ho, hz.1, by unfold PySem.W.notCls; rw [hd], by rw [hz.2]; exact hod⟩
  exact PySem.W.kia_one (PySem.W.kitx_exc some_ T.ga T.gg T.exC T.ca T.cn T.ct T.om) I.kIn J e (fun z => nomatch z) fun tk => ⟨.bl b, H, I.tok tk, rfl, q⟩
/-- a caught one's field -/
def tXg (K : PySem.W.Frag) (f : Str) (te : TE) : TE := fun σ H Q => te σ H fun x H1 => ∃ (a C d : Addr) (fs : List (Str × V)) (v : V), x = .ref a ∧ XfC K C ∧ PySem.W.findIn K (.ref C) f = some none ∧ H1 a = some (exh (.ref C) (some d) a) ∧ H1 d = some (.xd fs) ∧ fs.lookup f = some v ∧ Q v H1
theorem pe_xg {X : Cx} {e : Expr} {te : TE} {pos : Pos} {n : Str} (he : PE X e te) (hb : attributeBase e n X.env (eval e X.env) = eval e X.env := by rfl) : PE X (.Attribute e n pos) (tXg X.K n te) := by
  refine ⟨fun pins s σ H Q I h => ?_⟩
  refine attr_of hb (thn (he.run pins s σ H _ I h) fun u s1 hh => ?_)
  obtain ⟨x, H1, I1, rx, a, C, d, fs, v, ex, T, hno, ea, ed, l, q⟩ := hh
  subst ex
  obtain rfl : u = Value.ref a := rx
  obtain ⟨oe, vs, ho, hz, hd⟩ := exh_at I1.hok ea
  have hx : ObjOk X.prog X.w H1 s1.heap d (.xd fs) := I1.hok d _ ed
  obtain ⟨mA, hns, hr⟩ := hx
  obtain ⟨od, hod, hl⟩ := lookIn_ns hns
  obtain ⟨u, hu, ru⟩ := RelO.some_of (v := v) (o := mA n) (by rw [← l]; exact hr n)
  have J : PySem.W.InstAt s1.heap a oe C (some od) := ⟨ho, hz.1, by unfold PySem.W.notCls; rw [hd], by rw [hz.2]; exact hod⟩
  exact HandSPX.exc_get I1.kIn J T.ga T.gg T.exC (PySem.W.findObj_own T.hdC hno rfl (by rw [hl, hu])) (handed_of ru) ⟨v, H1, I1.tok _, ru, q⟩
end EV
end L2

set_option Elab.async false
set_option linter.all false
set_option maxRecDepth 100000
set_option maxHeartbeats 4000000
/-! t[::-1] of a tuple. -/
namespace L2
namespace EV
open PySem PySem.Spec PyProof.Rows _root_.EV PySem.Builtin
theorem rev_adjust (n : Nat) : Slice.sliceAdjust none none (-1) (n : Int) = ((n : Int) - 1, -1) := by
  unfold Slice.sliceAdjust
  simp
theorem rev_places (n : Nat) : Slice.slicePlaces ((n : Int) - 1) (-1) (-1) = n := by
  unfold Slice.slicePlaces
  rw [if_neg (by decide)]
  by_cases h : 0 < n
  · rw [if_pos (by omega)]
    simp only [Int.neg_neg, Int.ediv_one]
    omega
  · rw [if_neg (by omega)]
    omega
theorem fm_congr {α β : Type} {f g : α → Option β} : ∀ {l : List α}, (∀ x ∈ l, f x = g x) → l.filterMap f = l.filterMap g
  | [], _ => rfl
  | x :: l, h => by
    rw [List.filterMap_cons, List.filterMap_cons, h x (List.mem_cons_self ..), fm_congr fun y hy => h y (List.mem_cons_of_mem _ hy)]
theorem rev_pick (xs : Array Value) : ((List.range xs.size).filterMap fun (k : Nat) => xs[((xs.size : Int) - 1 + (k : Int) * -1).toNat]?) = xs.toList.reverse := by
  have e : ∀ k ∈ List.range xs.size, xs[((xs.size : Int) - 1 + (k : Int) * -1).toNat]? = xs.toList.reverse[k]? := fun k hk => by
    have hk := List.mem_range.mp hk
    have z : ((xs.size : Int) - 1 + (k : Int) * -1).toNat = xs.size - 1 - k := by omega
    rw [z, List.getElem?_reverse (by simpa using hk)]
    simp
  rw [fm_congr e]
  have g : ∀ l : List Value, (List.range l.length).filterMap (fun k => l[k]?) = l := fun l => by
    have z := PySem.W.krv_all l.toArray
    simpa using z
  have z := g xs.toList.reverse
  simpa using z
section
variable {prog : Program} {w : World} {A : Around} {E : Value → Shared → Prop} {s : Shared}
theorem rev_applied {sl : Addr} {vk : Value} {n : Nat} {Q : Int × Int × Nat → Shared → Prop} (hs : s.heap.IsSliceOf sl .none .none vk) (pk : IsPart vk (some (-1))) (h : Q ((n : Int) - 1, -1, n) s) :
    wpAny (model prog w) A (Slice.sliceApplied (.ref sl) (pure (n : Int))) Q E s := by
  obtain ⟨os, hos, _, hds⟩ := id hs
  unfold Slice.sliceApplied Slice.sliceFields
  refine wpAny_bind (wpAny_bind (wpAny_field hos hds (x := .none) rfl (wpAny_bind (wpAny_field hos hds (x := .none) rfl (wpAny_bind (wpAny_field hos hds (x := vk) rfl (wpAny_pure ?_)))))))
  refine wpAny_bind (HT.slicePart_ pk ?_)
  show wpAny _ _ (if ((-1 : Int) == 0) = true then _ else _) _ _ s
  rw [if_neg (by decide)]
  refine wpAny_bind (slicePart_none (wpAny_bind (slicePart_none (wpAny_bind (wpAny_pure ?_)))))
  show wpAny _ _ (match Slice.sliceAdjust none none (-1) (n : Int) with | (lo, hi) => pure (lo, (-1 : Int), Slice.slicePlaces lo hi (-1))) _ _ s
  rw [rev_adjust]
  show wpAny _ _ (pure ((n : Int) - 1, (-1 : Int), Slice.slicePlaces ((n : Int) - 1) (-1) (-1))) _ _ s
  rw [rev_places]
  exact wpAny_pure h
theorem rev_item {t sl : Addr} {items : Array Value} {vk : Value} {Q : Value → Shared → Prop} (ht : IsTup s.heap t items) (hs : s.heap.IsSliceOf sl .none .none vk) (pk : IsPart vk (some (-1))) (hz : items.size ≤ sizeLine)
    (h : Q (.ref s.heap.objs.size) { s with heap := s.heap.push { cls := .type "tuple", data := .seq items.toList.reverse.toArray } }) : wpAny (model prog w) A (getItem (.ref t) (.ref sl)) Q E s := by
  have ok : sizeOk (.seq items.toList.reverse.toArray) := by
    show items.toList.reverse.toArray.size ≤ sizeLine
    rw [List.size_toArray, List.length_reverse, Array.length_toList]
    exact hz
  obtain ⟨os, hos, hcs, _⟩ := id hs
  have hTs : s.TypeIs (.ref sl) "slice" := ⟨os, hos, hcs⟩
  unfold getItem
  try with_reducible refine wpAny_holding ?_
  first | refine wpAny_bind (wpAny_pure ?_) | skip
  refine wpAny_bind (wpAny_sequenceKey ht.typeIs (by decide) ?_)
  refine wpAny_bind (wpAny_callSpecial?_slot (name := Str.ofString "__getitem__") ht.typeIs PyProof.Rows.slot_tuple_getitem (wpAny_call_entry PyProof.Rows.slot_tuple_getitem ht.typeIs entry_tuple_getitem ?_ (args_tuple_getitem _ _)))
  show wpAny _ _ (Tuple.tupleItemsOf (.ref t) >>= _) _ _ s
  refine wpAny_bind (tupleItemsOf_ ht (wpAny_bind (wpAny_typeOf hTs ?_)))
  rw [if_pos (by decide)]
  refine wpAny_bind (rev_applied hs pk ?_)
  show wpAny _ _ (if ((((items.size : Nat) : Int) - 1) == 0 && (-1 : Int) == 1 && items.size == items.size) = true then _ else _) _ _ s
  rw [if_neg (by simp), rev_pick]
  first
    | exact wpAny_bind (m := Tuple.tupleExact _) (wpAny_newObj_type (wpAny_pure ⟨_, rfl, wpAny_pure h⟩) ok)
    | exact wpAny_bind (m := Tuple.tupleExact _) (wpAny_newObj_type (wpAny_bind (wpAny_pure (wpAny_pure ⟨_, rfl, wpAny_pure h⟩))) ok)
    | exact wpAny_bind (wpAny_bind (m := Tuple.tupleExact _) (wpAny_newObj_type (wpAny_pure (wpAny_pure ⟨_, rfl, wpAny_pure h⟩)) ok))
    | exact wpAny_bind (wpAny_bind (m := Tuple.tupleExact _) (wpAny_newObj_type (wpAny_pure ⟨_, rfl, wpAny_pure h⟩) ok))
end
def tRevT (K : PySem.W.Frag) (te tk : TE) : TE := fun σ H Q => te σ H fun x H1 => tPart tk σ H1 fun o H2 => o = some (-1) ∧ ∃ a xs, x = .ref a ∧ H2 a = some (.tup xs) ∧ ∀ p, H2 p = none → Q (.ref p) (upd H2 p (.tup xs.reverse))
theorem vals_revs : ∀ {zs : List V} {ws : List Value}, Vals zs ws → Vals zs.reverse ws.reverse
  | _, _, .nil => .nil
  | _, _, .cons r t => by
    rw [List.reverse_cons, List.reverse_cons]
    exact (vals_revs t).append (.cons r .nil)
section
variable {X : Cx} {e k : Expr} {te tk : TE} {pos p2 : Pos}
theorem pe_revT {ops : Value → Value → List Value} (he : PE X e te) (hk : PE X k tk) (hs : ∀ o i : Value, subscripted (.Slice none none (some k) p2) false o i = operate (ops o i) (getItem o i)) : PE X (.Subscript e (.Slice none none (some k) p2) pos) (tRevT X.K te tk) := by
  refine ⟨fun pins s σ H Q I h => ?_⟩
  refine Subscript_ (thn (he.run pins s σ H _ I h) fun v s1 ⟨x, H1, I1, r1, q1⟩ => ?_)
  refine wpAny_Slice (thn (po_none.run pins s1 σ H1 (fun o H' => o = none ∧ H' = H1) I1 ⟨rfl, rfl⟩) fun vl s2 ⟨l, H2, I2, pl, q2⟩ => thn (po_none.run pins s2 σ H2 (fun o H' => o = none ∧ H' = H2) I2 ⟨rfl, rfl⟩) fun vu s3 ⟨u, H3, I3, pu, q3⟩ => ?_)
  obtain ⟨rfl, rfl⟩ := q2
  obtain ⟨rfl, rfl⟩ := q3
  cases pl
  cases pu
  refine thn ((po_some hk).run pins s3 σ _ _ I3 q1) fun vk s4 ⟨o, H4, I4, pk, ho, a, xs, ex, ea, q4⟩ => ?_
  subst ex ho
  obtain rfl : v = Value.ref a := r1
  have I5 : Inv X pins σ H4 { s4 with heap := s4.heap.push { cls := .type "slice", data := .fields #[.none, .none, vk] } } := I4.kept (t' := s4.toks) fun b ob q => Heap.get?_push_of_some _ q
  obtain ⟨its, r, ht, hz⟩ := I5.tuple (SqT.of ea)
  have hg := rev_item (prog := X.prog) (w := X.w) (A := X.A) (E := X.xe) (Q := EP X pins σ Q) (s := { s4 with heap := s4.heap.push { cls := .type "slice", data := .fields #[.none, .none, vk] } }) ht (Heap.IsSliceOf.new ..) pk (by rw [List.size_toArray, ← r.length]; exact hz) ?_
  · exact tail_any ht.typeIs PyProof.Rows.slot_tuple_getitem.lookup hg (hs _ _)
  · rw [List.toList_toArray]
    have fr : H4 (s4.heap.push { cls := .type "slice", data := .fields #[.none, .none, vk] }).objs.size = none := I5.hok.fresh (Nat.le_refl _)
    refine ⟨.ref (s4.heap.push { cls := .type "slice", data := .fields #[.none, .none, vk] }).objs.size, _, I5.laid (t' := s4.toks) (a := (s4.heap.push { cls := .type "slice", data := .fields #[.none, .none, vk] }).objs.size) (o := .tup xs.reverse)
      (h' := (s4.heap.push { cls := .type "slice", data := .fields #[.none, .none, vk] }).push { cls := .type "tuple", data := .seq its.reverse.toArray }) (fun b o q => Heap.get?_push_of_some _ q) (Nat.le_refl _) ?_, rfl, q4 _ fr⟩
    exact ⟨by rw [List.length_reverse]; exact hz, its.reverse, vals_revs r, ⟨_, Heap.get?_push_size _ rfl, rfl, 0, rfl⟩⟩
end
end EV
end L2

set_option Elab.async false
set_option linter.all false
set_option maxRecDepth 100000
set_option maxHeartbeats 4000000
/-! Pairs of an int and a text: <, <=. Raising an own exception whose __init__ has put fields. -/
namespace L2
open PySem PySem.Spec PyProof.Rows
abbrev IS : Type := Int × Str
def ltIS (a b : IS) : Bool := if a.1 = b.1 then decide (sl a.2 < sl b.2) else decide (a.1 < b.1)
def tIS (a : IS) : HO := .tup [.int a.1, .str a.2]
def rLtIS : R2 := fun x y H Q => ∃ (a b : Addr) (m n : IS), x = .ref a ∧ y = .ref b ∧ H a = some (tIS m) ∧ H b = some (tIS n) ∧ Q (.bl (ltIS m n)) H
def rLeIS : R2 := fun x y H Q => ∃ (a b : Addr) (m n : IS), x = .ref a ∧ y = .ref b ∧ H a = some (tIS m) ∧ H b = some (tIS n) ∧ Q (.bl (!ltIS n m)) H
theorem lexP_lt (m n : IS) : Ob.lexAt (fun j => if j = 0 then m.1 == n.1 else m.2 == n.2) (fun j => if j = 0 then decide (m.1 < n.1) else decide (sl m.2 < sl n.2)) false 0 2 = ltIS m n := by
  obtain ⟨m1, m2⟩ := m
  obtain ⟨n1, n2⟩ := n
  simp only [Ob.lexAt, ltIS]
  by_cases e1 : m1 = n1
  · subst e1
    by_cases e2 : m2 = n2
    · subst e2
      have z : ¬ sl m2 < sl m2 := List.lt_irrefl _
      simp
    · simp [e2]
  · simp [e1]
theorem lexP_le (m n : IS) : Ob.lexAt (fun j => if j = 0 then m.1 == n.1 else m.2 == n.2) (fun j => if j = 0 then decide (m.1 ≤ n.1) else decide (sl m.2 ≤ sl n.2)) true 0 2 = !ltIS n m := by
  obtain ⟨m1, m2⟩ := m
  obtain ⟨n1, n2⟩ := n
  simp only [Ob.lexAt, ltIS]
  by_cases e1 : m1 = n1
  · subst e1
    by_cases e2 : m2 = n2
    · subst e2
      have z : ¬ sl m2 < sl m2 := List.lt_irrefl _
      simp
    · have e2' : ¬ n2 = m2 := fun z => e2 z.symm
      simp only [beq_self_eq_true, if_true, Nat.zero_add, Nat.one_ne_zero, if_false, beq_iff_eq, e2]
      by_cases z : sl m2 ≤ sl n2
      · rw [decide_eq_true z, decide_eq_false (List.not_lt.mpr z)]
        rfl
      · rw [decide_eq_false z, decide_eq_true (List.not_le.mp z)]
        rfl
  · have e1' : ¬ n1 = m1 := fun z => e1 z.symm
    simp only [if_true, beq_iff_eq, e1, e1', if_false]
    by_cases z : m1 ≤ n1
    · rw [decide_eq_true z, decide_eq_false (by omega)]
      rfl
    · rw [decide_eq_false z, decide_eq_true (by omega)]
      rfl
theorem lt_strR {A : Around} {s : Shared} (a b : Str) (t u : Tok) : Ob.RcOp .Lt A s (.str a t) (.str b u) (decide (sl a < sl b)) := fun _ _ _ _ h => PyProof.Rows.lt_str h
section
variable {X : Cx}
theorem vals_2 {x y : V} {us : List Value} (r : Vals [x, y] us) : ∃ u w', us = [u, w'] ∧ RelV x u ∧ RelV y w' := by
  cases r with
  | cons r1 r =>
    cases r with
    | cons r2 r =>
      cases r
      exact ⟨_, _, rfl, r1, r2⟩
theorem op_ltIS (hu : X.A.units < cLine) : OpR X (compareOp .Lt) rLtIS := by
  intro pins s σ H x y v u Q I rx ry h
  obtain ⟨a, b, m, n, rfl, rfl, ha, hb, q⟩ := h
  cases rx
  cases ry
  obtain ⟨its, r1, p1, _⟩ := I.tuple (SqT.of ha)
  obtain ⟨its2, r2, p2, _⟩ := I.tuple (SqT.of hb)
  obtain ⟨u1, u2, rfl, ⟨t1, rfl⟩, ⟨t2, rfl⟩⟩ := vals_2 r1
  obtain ⟨v1, v2, rfl, ⟨w1, rfl⟩, ⟨w2, rfl⟩⟩ := vals_2 r2
  have R := Ob.RcOp.tuples_lt (A := X.A) (s := s) (e := fun j => if j = 0 then m.1 == n.1 else m.2 == n.2) (r := fun j => if j = 0 then decide (m.1 < n.1) else decide (sl m.2 < sl n.2)) p1 p2 hu
    (fun j h1 h2 => by
      match j, h1 with
      | 0, _ => exact SeqAt.EqAt.int_int _ _ _ _
      | 1, _ => exact SeqAt.EqAt.str_str _ _ _ _)
    (fun j h1 h2 _ => by
      match j, h1 with
      | 0, _ => exact Ob.RcOp.lt_int _ _ _ _
      | 1, _ => exact lt_strR _ _ _ _)
  have e3 : Ob.lexAt (fun j => if j = 0 then m.1 == n.1 else m.2 == n.2) (fun j => if j = 0 then decide (m.1 < n.1) else decide (sl m.2 < sl n.2)) (decide (2 < 2)) 0 (min 2 2) = ltIS m n := lexP_lt m n
  have z : wpAny (model X.prog X.w) X.A (compareOp .Lt (.ref a) (.ref b)) (EP X pins σ Q) X.xe s := R X.prog X.w X.xe (EP X pins σ Q) ⟨.bl _, H, I, rfl, by
    rw [← e3] at q
    exact q⟩
  exact z
theorem op_leIS (hu : X.A.units < cLine) : OpR X (compareOp .LtE) rLeIS := by
  intro pins s σ H x y v u Q I rx ry h
  obtain ⟨a, b, m, n, rfl, rfl, ha, hb, q⟩ := h
  cases rx
  cases ry
  obtain ⟨its, r1, p1, _⟩ := I.tuple (SqT.of ha)
  obtain ⟨its2, r2, p2, _⟩ := I.tuple (SqT.of hb)
  obtain ⟨u1, u2, rfl, ⟨t1, rfl⟩, ⟨t2, rfl⟩⟩ := vals_2 r1
  obtain ⟨v1, v2, rfl, ⟨w1, rfl⟩, ⟨w2, rfl⟩⟩ := vals_2 r2
  have R := Ob.RcOp.tuples_le (A := X.A) (s := s) (e := fun j => if j = 0 then m.1 == n.1 else m.2 == n.2) (r := fun j => if j = 0 then decide (m.1 ≤ n.1) else decide (sl m.2 ≤ sl n.2)) p1 p2 hu
    (fun j h1 h2 => by
      match j, h1 with
      | 0, _ => exact SeqAt.EqAt.int_int _ _ _ _
      | 1, _ => exact SeqAt.EqAt.str_str _ _ _ _)
    (fun j h1 h2 _ => by
      match j, h1 with
      | 0, _ => exact Ob.RcOp.le_int _ _ _ _
      | 1, _ => exact RcOp.le_str _ _ _ _)
  have e3 : Ob.lexAt (fun j => if j = 0 then m.1 == n.1 else m.2 == n.2) (fun j => if j = 0 then decide (m.1 ≤ n.1) else decide (sl m.2 ≤ sl n.2)) (decide (2 ≤ 2)) 0 (min 2 2) = !ltIS n m := lexP_le m n
  have z : wpAny (model X.prog X.w) X.A (compareOp .LtE (.ref a) (.ref b)) (EP X pins σ Q) X.xe s := R X.prog X.w X.xe (EP X pins σ Q) ⟨.bl _, H, I, rfl, by
    rw [← e3] at q
    exact q⟩
  exact z
end
namespace EV
/-- an exception's fields, told as those of one that flies -/
theorem exd_told {X : Cx} {pins : List (Addr × Obj)} {σ : L2.St} {H : Hp} {s : Shared} {d : Addr} {fs : List (Str × V)} (I : Inv X pins σ H s) (e : H d = some (exd d fs)) : Inv X pins σ (upd H d (.xd fs)) s := by
  obtain ⟨mA, hns, rel⟩ := exd_at I.hok e
  obtain ⟨od, ho, _⟩ := lookIn_ns hns
  exact I.write (h' := s.heap) (t' := s.toks) (x := d) (e := d) (o := .xd fs) (by rw [e]; exact True.intro) (.inl rfl) (fun b u _ q => q) (by
    obtain ⟨o, es, ep, e1, _⟩ := hns
    exact ⟨_, e1⟩) ⟨mA, hns, rel⟩
theorem pmk_own3 {X : Cx} {e : Expr} {te : TE} (hx : X.ex = []) (he : PE X e te) :
    PMk X e (fun σ H Q => te σ H fun x H1 => ∃ (a C d : Addr) (fs : List (Str × V)), x = .ref a ∧ H1 a = some (exo a C (some d)) ∧ d ≠ a ∧ H1 d = some (exd d fs) ∧ Fr0 X.H_0 a ∧ Raises X (.ref C) ∧ Q (.ref C) (some d) (upd (delH H1 a) d (.xd fs))) := by
  intro pins s σ H Q I h
  refine wpAny_mono (he.run pins s σ H _ I h) (fun u s1 hu => ?_) fun _ _ x => x
  obtain ⟨v, H1, I1, r1, a, C, d, fs, rfl, ha, nda, hd, h0, hr, q⟩ := hu
  cases r1
  obtain ⟨t1, ho⟩ := exo_at I1.hok ha
  obtain ⟨G, gs, ga, J⟩ := I1.untrack ha h0 hx
  have hd' : delH H1 a d = some (exd d fs) := by
    rw [delH_ne nda]
    exact hd
  have J2 := exd_told J hd'
  have na : upd (delH H1 a) d (.xd fs) a = none := by
    rw [upd_ne nda.symm]
    exact delH_same
  exact ⟨a, _, _, { s1 with heap := G }, _, .ref C, some d, rfl, J2, gs, ga, ho, ⟨rfl, rfl⟩, rfl, rfl, na, rfl, I1.bare, hr, q⟩
end EV
end L2

set_option Elab.async false
set_option linter.all false
set_option maxRecDepth 100000
set_option maxHeartbeats 4000000
/-! BadFraming; is_joined of what isn't; need_framing of what is no framing. -/
namespace K34
open PySem L2 L2.EV
abbrev sJoined : Stmt := top 20
abbrev sNeedF : Stmt := top 21
def spOne (C : Addr) (f : Str) : Sp := fun vs H Q _ => ∃ (a : Addr) (x : V), vs = [.ref a, x] ∧ H a = some (exo a C none) ∧
  ∀ dx, H dx = none → dx ≠ a → Q .non (upd (upd H dx (exd dx [(f, x)])) a (exo a C (some dx)))
/-- what is asked of a built-in base, for B.__init__(self, ..) -/
structure BI (K : PySem.W.Frag) (mg : Str → Option Value) (nB : Str) (B initId : String) : Prop where
  mg : mg nB = none
  bt : bootBuiltins nB = some (.type B)
  ty : typeOf (.type B) = pure (.type "type")
  vV : PySem.W.findCls K (.type B) (.type "type") "__init__" = some (.val (.builtin initId))
  st : Manifest.isStub B = false
def gP : List Value → List Value → List Value := fun us _ => us
def vP : List V → List V → List V := fun vs _ => vs
theorem kb_pos {K : PySem.W.Frag} {fd : FuncData} {ps : List Str} {n : Nat} (b : Binds K fd ps []) (hn : ps.length = n) : KBn K fd ps n [] gP vP := by
  refine ⟨fun s us ws X l1 l2 => ?_, fun r _ => r⟩
  have z := b s us X (by rw [List.append_nil, l1, hn])
  rw [List.append_nil] at z
  exact z
abbrev bmVE : List Value := [.type "ValueError", .type "Exception", .type "BaseException", .type "object"]
theorem same_none {H H' : Hp} {a : Addr} (s : Same H H') (n : H' a = none) : H a = none := by
  cases e : H a with
  | none => rfl
  | some o =>
    rw [s _ _ e] at n
    cases n
theorem drop_at {α : Type} {l : List α} {i : Nat} {x : α} (h : l[i]? = some x) : l.drop i = x :: l.drop (i + 1) := by
  obtain ⟨hi, e⟩ := List.getElem?_eq_some_iff.mp h
  rw [List.drop_eq_getElem_cons hi, e]
abbrev sBadFraming : Stmt := inClass (top 2) 0
section
variable {P : Program} {w : World} {K : PySem.W.Frag} {mg : Str → Option Value} {base : Heap}
theorem scBadFraming : FnScope ["self", "number"] ["self", "number"] (defScope sBadFraming) := ⟨rfl, rfl, rfl, by decide +kernel, rfl, by decide +kernel, by decide +kernel⟩
theorem ok_BadFraming {f C : Addr} {fd : FuncData} (F : Fun K "__init__" "BadFraming.__init__" sBadFraming f fd) (T : OxC K C "ValueError" "ValueError.__new__" "ValueError.__init__" [.type "ValueError", .type "Exception", .type "BaseException", .type "object"]) (I : BI K mg "ValueError" "ValueError" "ValueError.__init__")
    (n0 : PySem.W.findIn K (.ref C) "number" = some none) : FnOk P w K mg base CX0 1 f fd ["self", "number"] (spOne C "number") := by
  refine F.ok scBadFraming (fun vs H Q E h => ?_) (fun cdv A outer s H vs Q E hr h => ?_)
  · obtain ⟨a, x, rfl, _⟩ := h
    rfl
  · obtain ⟨a, x, rfl, e, q⟩ := h
    refine ⟨_, pss_cons (ps_expr (pe_bin (newId := "ValueError.__new__") (bm := [.type "ValueError", .type "Exception", .type "BaseException", .type "object"]) (by rfl) I.mg I.bt I.ty I.vV I.st (pa_cons (pv 0) (pa_cons pe_str pa_nil)) rfl)) (pss_one (ps_put (B := "ValueError") (newId := "ValueError.__new__") (initId := "ValueError.__init__") (bm := [.type "ValueError", .type "Exception", .type "BaseException", .type "object"]) (pv 0) (pv 1) rfl)), ?_⟩
    exact ⟨_, rfl, a, C, _, rfl, by show 1 ≤ 1000; decide, T, e, _, rfl, _, rfl, a, C, rfl, T, n0, .inl ⟨e, fun dx hn ne => q dx hn ne⟩⟩
end
/-- what is known of BadFraming -/
structure Bfr (K : PySem.W.Frag) (mg : Str → Option Value) where
  C : Addr
  f : Addr
  d : FuncData
  T : OxC K C "ValueError" "ValueError.__new__" "ValueError.__init__" bmVE
  I : BI K mg "ValueError" "ValueError" "ValueError.__init__"
  F : Fun K "__init__" "BadFraming.__init__" sBadFraming f d
  b : Binds K d ["self", "number"] []
  m : mg "BadFraming" = some (.ref C)
  iC : PySem.W.findIn K (.ref C) "__init__" = some (some (.ref f))
  tI : PySem.W.typeIn K (.ref f) = some (.type "function")
  n0 : PySem.W.findIn K (.ref C) "number" = some none
  su : PySem.W.subIn K (.ref C) (.type "BaseException") = some true
  ty : PySem.W.typeIn K (.ref C) = some (.type "type")
theorem bad_heap {H : Hp} {C a dx : Addr} {x : V} (na : H a = none) (hn : upd H a (exo a C none) dx = none) (ne : dx ≠ a) :
    (upd (upd (upd H a (exo a C none)) dx (exd dx [("number", x)])) a (exo a C (some dx))) a = some (exo a C (some dx)) ∧
    (upd (upd (upd H a (exo a C none)) dx (exd dx [("number", x)])) a (exo a C (some dx))) dx = some (exd dx [("number", x)]) ∧
    Same H (upd (delH (upd (upd (upd H a (exo a C none)) dx (exd dx [("number", x)])) a (exo a C (some dx))) a) dx (.xd [("number", x)])) := by
  have hd : H dx = none := by
    rw [upd_ne ne] at hn
    exact hn
  refine ⟨upd_same, by rw [upd_ne ne]; exact upd_same, fun b o e => ?_⟩
  have h1 := ne_of_none e na
  have h2 := ne_of_none e hd
  rw [upd_ne h2, delH_ne h1, upd_ne h1, upd_ne h2, upd_ne h1]
  exact e
/-- the error is told with this field -/
def Eb (C : Addr) (E : XK) (H : Hp) (r : V) : Prop := ∀ (H' : Hp) (dx : Addr), Same H H' → H' dx = some (.xd [("number", r)]) → E (.ref C) (some dx) H'
theorem Eb.same {C : Addr} {E : XK} {H H' : Hp} {r : V} (h : Eb C E H r) (s : Same H H') : Eb C E H' r := fun H2 dx s2 e => h H2 dx (s.trans s2) e
/-- a framing of right steps that isn't joined -/
def JF (H : Hp) (f : Addr) : Prop := ∃ (fr : List T3) (last : Nat) (S : Int → Prop) (k : Int), FrA H f fr ∧ Fb fr last ∧ (∀ x ∈ fr, x.1 = ((0 : Nat) : Int) → S x.2.2) ∧ (∀ x ∈ fr, S x.1 → S x.2.2) ∧ (∃ x ∈ fr, x.1 = k ∨ x.2.2 = k) ∧ ¬ S k
theorem JF.same {H H' : Hp} {f : Addr} (h : JF H f) (s : Same H H') : JF H' f := by
  obtain ⟨fr, last, S, k, fa, r⟩ := h
  exact ⟨fr, last, S, k, fa.same s, r⟩
def spJF : Sp := fun vs H Q _ => ∃ (f : Addr), vs = [.ref f] ∧ JF H f ∧ ∀ H', Same H H' → Q (.bl false) H'
def lb3 : Option T3 → T3 → Bool
  | none, _ => false
  | some p, t => !lt3 p t
/-- the number of the first thing that is no step, or not greater than the one ahead -/
def wrgF : List PyData → Option T3 → Nat → Option Nat
  | [], _, _ => none
  | d :: ds, last, k => match stpD d with
    | none => some k
    | some t => if lb3 last t = true then some k else wrgF ds (some t) (k + 1)
theorem wrgF_none {d : PyData} {ds : List PyData} {last : Option T3} {k : Nat} (h : stpD d = none) : wrgF (d :: ds) last k = some k := by
  rw [wrgF, h]
theorem wrgF_some {d : PyData} {ds : List PyData} {last : Option T3} {k : Nat} {t : T3} (h : stpD d = some t) : wrgF (d :: ds) last k = if lb3 last t = true then some k else wrgF ds (some t) (k + 1) := by
  rw [wrgF, h]
theorem stp_at {H : Hp} {v : V} {d : PyData} {t : T3} (h : Da H v d) (e : stpD d = some t) : ∃ a, v = .ref a ∧ S3 H a t := by
  obtain ⟨rfl, _⟩ := stpD_some e
  cases h with
  | tup e all =>
    match all with
    | .cons (.int _) (.cons (.str _) (.cons (.int _) .nil)) => exact ⟨_, rfl, e⟩
/-- what is no framing, and the number that is told -/
def Bad (H : Hp) (v : V) (r : V) : Prop := (∃ d, Da H v d ∧ isTup d = false ∧ r = .non) ∨ (∃ a, v = .ref a ∧ H a = some (.dK []) ∧ r = .non) ∨
  (∃ (a : Addr) (xs : List V) (ds : List PyData), v = .ref a ∧ H a = some (.tup xs) ∧ DaAll H xs ds ∧ ds.length ≤ 16 ∧ (∀ d ∈ ds, szS d) ∧
    ((ds = [] ∧ r = .non) ∨ (∃ k : Nat, ds ≠ [] ∧ wrgF ds none 0 = some k ∧ r = .int (k : Int)) ∨ (ds ≠ [] ∧ wrgF ds none 0 = none ∧ JF H a ∧ r = .int (-1))))
theorem Bad.same {H H' : Hp} {v r : V} (h : Bad H v r) (s : Same H H') : Bad H' v r := by
  rcases h with ⟨d, da, c, e⟩ | ⟨a, e1, e2, e3⟩ | ⟨a, xs, ds, e1, e2, e3, e4, e5, h⟩
  · exact .inl ⟨d, Da.same s _ _ da, c, e⟩
  · exact .inr (.inl ⟨a, e1, s _ _ e2, e3⟩)
  · refine .inr (.inr ⟨a, xs, ds, e1, s _ _ e2, DaAll.same s _ _ e3, e4, e5, ?_⟩)
    rcases h with h | h | ⟨h1, h2, h3, h4⟩
    · exact .inl h
    · exact .inr (.inl h)
    · exact .inr (.inr ⟨h1, h2, h3.same s, h4⟩)
def spNeedFX (C : Addr) : Sp := fun vs H Q E => ∃ (v r : V), vs = [v] ∧ Bad H v r ∧ Eb C E H r
/-- the defs that need_framing calls -/
structure Fs (K : PySem.W.Frag) (mg : Str → Option Value) where
  B : Bfr K mg
  fN : Addr
  fP : Addr
  fS : Addr
  fL : Addr
  fW : Addr
  fJ : Addr
  fF : Addr
  dN : FuncData
  dP : FuncData
  dS : FuncData
  dL : FuncData
  dW : FuncData
  dJ : FuncData
  dF : FuncData
  N : Fun K "is_number" "is_number" sNum fN dN
  P : Fun K "is_piece" "is_piece" sPc fP dP
  S : Fun K "is_step" "is_step" sStep fS dS
  L : Fun K "listed_standings" "listed_standings" sListed fL dL
  W : Fun K "ways_from" "ways_from" sWays fW dW
  J : Fun K "is_joined" "is_joined" sJoined fJ dJ
  F : Fun K "need_framing" "need_framing" sNeedF fF dF
  bN : Binds K dN ["thing", "many"] []
  bP : Binds K dP ["thing"] []
  bS : Binds K dS ["thing"] []
  bL : Binds K dL ["framing"] []
  bW : Binds K dW ["framing", "begin"] []
  bJ : Binds K dJ ["framing"] []
  bF : Binds K dF ["thing"] []
  mN : mg "is_number" = some (.ref fN)
  mP : mg "is_piece" = some (.ref fP)
  mS : mg "is_step" = some (.ref fS)
  mL : mg "listed_standings" = some (.ref fL)
  mW : mg "ways_from" = some (.ref fW)
  mJ : mg "is_joined" = some (.ref fJ)
  mF : mg "need_framing" = some (.ref fF)
  T : TxtF mg
  so : mg "sorted" = none
  en : mg "enumerate" = none
  ms : ∃ t, mg "MOST_STEPS" = some (.int 16 t)
section
variable {P : Program} {w : World} {K : PySem.W.Frag} {mg : Str → Option Value} {base : Heap}
theorem scJoined : FnScope ["framing", "reached", "standing"] ["framing"] (defScope sJoined) := ⟨rfl, rfl, rfl, by decide +kernel, rfl, by decide +kernel, by decide +kernel⟩
theorem ok_JF (Z : Fs K mg) : FnOk P w K mg base CX0 2 Z.fJ Z.dJ ["framing"] spJF := by
  have GL : FnOk P w K mg base CX0 1 Z.fL Z.dL ["framing"] spListed := ok_listed Z.L Z.so
  have GW : FnOk P w K mg base CX0 1 Z.fW Z.dW ["framing", "begin"] spWays := ok_ways Z.W Z.en
  refine Z.J.ok scJoined (fun vs H Q E h => ?_) (fun cdv A outer s H vs Q E hr h => ?_)
  · obtain ⟨f, rfl, _⟩ := h
    rfl
  · obtain ⟨f, rfl, ⟨fr, last, S, kk, fa, fm, c0, c1, hk, nk⟩, q⟩ := h
    have hu := hu_of hr
    refine ⟨_, pss_cons (ps_set (i := 1) scJoined.nd rfl (Or.inl rfl) (pe_call GW hr (by rfl) Z.mW Z.W.kp Z.bW .nil pass0 (pa_cons (pv 0) (pa_cons pe_int pa_nil))))
      (pss_cons (ps_for PassesOwn.never rfl (pi_list (pe_call GL hr (by rfl) Z.mL Z.L.kp Z.bL .nil pass0 (pa_cons (pv 0) pa_nil))) (pg_name (i := 2) scJoined.nd rfl (Or.inl rfl))
        (pss_one (ps_if (pw_or (pt_cmp (pc_dnotin hu (pv 2) (pv 1)) (by rfl)) (pw_or1 (pt_cmp (pc_dnotin hu pe_int (pe_call GW hr (by rfl) Z.mW Z.W.kp Z.bW .nil pass0 (pa_cons (pv 0) (pa_cons (pv 2) pa_nil)))) (by rfl)))).pt
          (pss_one (ps_ret pe_bl)) pss_nil)))
      (pss_one (ps_ret pe_bl))), ?_⟩
    refine ⟨_, rfl, f, fr, last, 0, S, rfl, fa, fm, Nat.zero_le _, c0, c1, fun H1 d kvs s1 n1 e1 h1 k1 => ?_⟩
    refine ⟨_, rfl, f, fr, last, rfl, fa.same s1, fm, fun H2 p ns s2 n2 e2 l2 k2 a2 => ⟨p, rfl, ⟨_, SqL.of e2⟩, for_it (walk_list (xs := ns.map V.int)) (fun i σ H' => ∃ v2 : Option V, σ = [some (.ref f), some (.ref d), v2] ∧ Same H2 H' ∧ ∀ g ∈ ns.take i, g ≠ kk)
      ⟨none, rfl, (fun _ _ e => e), fun g z => by cases z⟩ (fun i σ H' _ ⟨_, _, z, _⟩ => SqL.of (z _ _ e2)) ?_ ?_⟩⟩
    · rintro i x σ H3 H4 hi ⟨v2, rfl, s3, al⟩ ⟨rfl, hx⟩
      obtain ⟨k, hk, hki, rfl⟩ : ∃ k : Int, k ∈ ns ∧ ns[i]? = some k ∧ x = .int k := by
        rw [List.getElem?_map] at hx
        cases e : ns[i]? with
        | none =>
          rw [e] at hx
          cases hx
        | some k =>
          rw [e] at hx
          exact ⟨k, List.mem_of_getElem? e, rfl, (Option.some.inj hx).symm⟩
      obtain ⟨k0, k1'⟩ := k2 k hk
      obtain ⟨b, rfl⟩ := Int.eq_ofNat_of_zero_le k0
      have hb : b ≤ last := by omega
      refine ⟨_, rfl, _, rfl, d, _, rfl, DGet.k (k := Sum.inl (b : Int)) (s3 _ _ (s2 _ _ e1)), _, rfl, ?_⟩
      cases hh : (valV kvs (Sum.inl (b : Int) : Key)).isSome with
      | false => exact iteT (q _ (s1.trans (s2.trans s3)))
      | true =>
        refine iteF ?_
        refine ⟨_, rfl, _, rfl, f, fr, last, b, (fun _ => True), rfl, (fa.same s1).same (s2.trans s3), fm, hb, (fun _ _ _ => trivial), (fun _ _ _ => trivial), fun H5 d5 kvs5 s5 n5 e5 _ _ => ?_⟩
        refine ⟨d5, _, rfl, DGet.k (k := Sum.inl (0 : Int)) e5, _, rfl, ?_⟩
        cases h5 : (valV kvs5 (Sum.inl (0 : Int) : Key)).isSome with
        | false => exact iteT (q _ (s1.trans (s2.trans (s3.trans s5))))
        | true =>
          refine iteF ⟨_, rfl, s3.trans s5, fun g hg => ?_⟩
          rw [List.take_succ, hki] at hg
          rcases List.mem_append.mp hg with hg | hg
          · exact al g hg
          · have e9 : g = (b : Int) := by simpa using hg
            rw [e9]
            exact fun z => nk (z ▸ k1 _ hh)
    · rintro σ H3 ⟨v2, rfl, s3, al⟩
      have e9 : ns.take (ns.map V.int).length = ns := by rw [List.length_map, List.take_length]
      rw [e9] at al
      obtain ⟨x, hx, e⟩ := hk
      obtain ⟨y1, y2⟩ := a2 x hx
      rcases e with e | e
      · exact absurd e (al _ y1)
      · exact absurd e (al _ y2)
theorem scNeedF : FnScope ["thing", "number", "step"] ["thing"] (defScope sNeedF) := ⟨rfl, rfl, rfl, by decide +kernel, rfl, by decide +kernel, by decide +kernel⟩
theorem ok_needFX (Z : Fs K mg) : FnOk P w K mg base (L2.CX P w) 3 Z.fF Z.dF ["thing"] (spNeedFX Z.B.C) := by
  have GS : FnOk P w K mg base CX0 2 Z.fS Z.dS ["thing"] spStpD := ok_stpD Z.S Z.T Z.N Z.bN Z.mN Z.P Z.bP Z.mP
  have GJ : FnOk P w K mg base CX0 2 Z.fJ Z.dJ ["framing"] spJF := ok_JF Z
  have GB : FnOk P w K mg base CX0 1 Z.B.f Z.B.d ["self", "number"] (spOne Z.B.C "number") := ok_BadFraming Z.B.F Z.B.T Z.B.I Z.B.n0
  refine Z.F.okX scNeedF (fun vs H Q E h => ?_) (fun cdv A outer s H vs Q E hr h => ?_)
  · obtain ⟨v, r, rfl, _⟩ := h
    rfl
  · obtain ⟨v, r, rfl, bad, q⟩ := h
    have hu := hu_of hr
    have hu0 : (A.deeper (PyProof.Rows.envOfC "need_framing" (defScope sNeedF) s.heap.objs.size Z.fF cdv)).units < cLine := by omega
    obtain ⟨tm, eM⟩ := Z.ms
    refine ⟨_, pss_cons (ps_if (pw_or (pt_not (pt_val (pe_callB call_isi (by rfl) Z.T.isi PyProof.Rows.boot_isinstance (pa_cons (pv 0) (pa_cons (pe_bltn (v := .ty "tuple") (by rfl) Z.T.tuple (by decide +kernel) rfl) pa_nil)))))
        (pw_or1 (pt_not (pt_chain op_le op_le pe_int (pe_callB call_len_seq (by rfl) Z.T.len PySem.boot_len (pa_cons (pv 0) pa_nil)) (pe_glob (v := .int 16) (by rfl) eM ⟨_, rfl⟩))))).pt
        (pss_one (ps_raise rfl (takes_of rfl rfl rfl rfl) (pmk_own3 rfl (pe_new Z.B.T Z.B.iC Z.B.tI GB hr (kb_pos Z.B.b rfl) pass0 (by rfl) Z.B.m (pa_cons pe_non pa_nil))))) pss_nil)
      (pss_cons (ps_for (passes_of rfl) rfl (pi_enumT (by rfl) Z.en (pa_cons (pv 0) pa_nil)) (pg_tup rfl (pgs_cons (pg_name (i := 1) scNeedF.nd rfl (Or.inl rfl)) (pgs_cons (pg_name (i := 2) scNeedF.nd rfl (Or.inl rfl)) pgs_nil)))
        (pss_one (ps_if (pw_or (pt_not (pt_val (pe_call GS hr (by rfl) Z.mS Z.S.kp Z.bS .nil pass0 (pa_cons (pv 2) pa_nil))))
          (pw_or1 (pw_and (pt_cmpR op_gt (pv 1) pe_int (nomark _)) (pw_and1 (pt_cmpR (op_le3 hu0) (pv 2) (pe_ix ix_tup (pv 0) (pe_op op_sub (pv 1) pe_int) (fun _ _ => rfl)) (nomark _)))).pt)).pt
          (pss_one (ps_raise rfl (takes_of rfl rfl rfl rfl) (pmk_own3 rfl (pe_new Z.B.T Z.B.iC Z.B.tI GB hr (kb_pos Z.B.b rfl) pass0 (by rfl) Z.B.m (pa_cons (pv 1) pa_nil))))) pss_nil)))
      (pss_cons (ps_if (pt_not (pt_val (pe_call GJ hr (by rfl) Z.mJ Z.J.kp Z.bJ .nil pass0 (pa_cons (pv 0) pa_nil)))) (pss_one (ps_raise rfl (takes_of rfl rfl rfl rfl) (pmk_own3 rfl (pe_new Z.B.T Z.B.iC Z.B.tI GB hr (kb_pos Z.B.b rfl) pass0 (by rfl) Z.B.m (pa_cons (pe_un un_neg pe_int) pa_nil))))) pss_nil)
      (pss_one ps_never))), ?_⟩
    -- the raise, from any state that came so far
    have fin : ∀ {H1 : Hp} {a : Addr} {r : V} (s1 : Same H H1) (na : H1 a = none) (qe : Eb Z.B.C E H r) (dx : Addr), upd H1 a (exo a Z.B.C none) dx = none → dx ≠ a →
        ∃ (a0 C d : Addr) (fs : List (Str × V)), V.ref a = .ref a0 ∧ (upd (upd (upd H1 a (exo a Z.B.C none)) dx (exd dx [("number", r)])) a (exo a Z.B.C (some dx))) a0 = some (exo a0 C (some d)) ∧ d ≠ a0 ∧
          (upd (upd (upd H1 a (exo a Z.B.C none)) dx (exd dx [("number", r)])) a (exo a Z.B.C (some dx))) d = some (exd d fs) ∧ Fr0 H a0 ∧
          Raises (cxOf (L2.CX P w) P w K mg base ["thing", "number", "step"] "need_framing" (defScope sNeedF) Z.fF cdv A outer s H E) (.ref C) ∧
          E (.ref C) (some d) (upd (delH (upd (upd (upd H1 a (exo a Z.B.C none)) dx (exd dx [("number", r)])) a (exo a Z.B.C (some dx))) a0) d (.xd fs)) := by
      intro H1 a r s1 na qe dx hn ne
      obtain ⟨b1, b2, b3⟩ := bad_heap (x := r) na hn ne
      exact ⟨a, Z.B.C, dx, _, rfl, b1, ne, b2, fr0_none (same_none s1 na), raises_own Z.B.su Z.B.ty, qe _ dx (s1.trans b3) upd_same⟩
    rcases bad with ⟨d, da, c, rfl⟩ | ⟨a, rfl, e, rfl⟩ | ⟨a, xs, ds, rfl, ha, all, l16, szs, bad⟩
    · obtain ⟨t, ty, kt, _, _⟩ := da.ty (K := K)
      rw [c] at kt
      refine ⟨_, rfl, v, .ty "tuple", t, .type "tuple", false, rfl, .ty "tuple", ty, kt, false, rfl, iteT ?_⟩
      exact ⟨rfl, rfl, (by decide), fun a na => ⟨a, .non, rfl, upd_same, fun dx hn ne => ⟨rfl, fin (Same.refl H) na q dx hn ne⟩⟩⟩
    · refine ⟨_, rfl, .ref a, .ty "tuple", .type "dict", .type "tuple", false, rfl, .ty "tuple", .base (.dK e), kit_ty (by decide +kernel), false, rfl, iteT ?_⟩
      exact ⟨rfl, rfl, (by decide), fun a na => ⟨a, .non, rfl, upd_same, fun dx hn ne => ⟨rfl, fin (Same.refl H) na q dx hn ne⟩⟩⟩
    · refine ⟨_, rfl, .ref a, .ty "tuple", .type "tuple", .type "tuple", true, rfl, .ty "tuple", .base (.tup ha), kit_ty (by decide +kernel), true, rfl, iteF ?_⟩
      have ln := all.len
      refine ⟨_, rfl, a, _, rfl, .inr (SqT.of ha), 1, _, rfl, rfl, _, rfl, ?_⟩
      by_cases hd0 : ds = []
      · have hr0 : r = .non := by
          rcases bad with ⟨_, z⟩ | ⟨_, z, _⟩ | ⟨z, _⟩
          · exact z
          · exact absurd hd0 z
          · exact absurd hd0 z
        subst hr0
        rw [hd0] at ln
        have ln : xs.length = 0 := ln
        refine iteF' (decide_eq_false (by omega)) ⟨_, rfl, iteT ?_⟩
        exact ⟨rfl, rfl, (by decide), fun a na => ⟨a, .non, rfl, upd_same, fun dx hn ne => ⟨rfl, fin (Same.refl H) na q dx hn ne⟩⟩⟩
      have dl : 0 < ds.length := List.length_pos_iff.mpr hd0
      refine iteT' (decide_eq_true (by omega)) ⟨_, 16, rfl, rfl, _, rfl, iteF' (by rw [decide_eq_true (by omega)]; rfl) ?_⟩
      have qr : ∀ i : Nat, wrgF ds none 0 = some i → Eb Z.B.C E H (.int (i : Int)) := fun i e => by
        rcases bad with ⟨z, _⟩ | ⟨k, _, z, rfl⟩ | ⟨_, z, _⟩
        · exact absurd z hd0
        · rw [z] at e
          cases e
          exact q
        · rw [z] at e
          cases e
      refine ⟨_, rfl, a, _, rfl, SqT.of ha, for_it (walk_enumT (xs := xs)) (fun i σ H' => ∃ (v1 v2 : Option V) (last : Option T3), σ = [some (.ref a), v1, v2] ∧ Same H H' ∧
          wrgF ds none 0 = wrgF (ds.drop i) last i ∧ (i = 0 → last = none) ∧ ∀ j, i = j + 1 → ∃ d t, ds[j]? = some d ∧ stpD d = some t ∧ last = some t)
        ⟨none, none, none, rfl, Same.refl H, rfl, fun _ => rfl, fun j hj => by omega⟩ (fun i σ H' _ ⟨_, _, _, _, z, _⟩ => SqT.of (z _ _ ha)) ?_ ?_⟩
      · rintro i x σ H1 H2 hi ⟨v1, v2, last, rfl, s1, inv, l0, l1⟩ ⟨T, xi, xo, rfl, nT, rfl, g1, g2⟩
        cases g1
        obtain ⟨d, hd, dv⟩ := all.at_ g2
        rw [drop_at hd] at inv
        have s2 := s1.trans (same_upd (o := HO.tup [V.int (i : Nat), xo]) nT)
        have dv2 := Da.same s2 _ _ dv
        refine ⟨T, _, rfl, SqT.of upd_same, rfl, _, _, rfl, _, _, rfl, rfl, ?_⟩
        refine ⟨_, rfl, xo, d, rfl, dv2, szs d (List.mem_of_getElem? hd), fun H3 s3 => ⟨_, rfl, ?_⟩⟩
        have s23 := s2.trans s3
        cases ed : stpD d with
        | none =>
          rw [wrgF_none ed] at inv
          exact iteT ⟨_, rfl, rfl, rfl, (by show 1 ≤ 1000; decide), fun a na => ⟨a, .int (i : Nat), rfl, upd_same, fun dx hn ne => ⟨rfl, fin s23 na (qr i inv) dx hn ne⟩⟩⟩
        | some t =>
          rw [wrgF_some ed] at inv
          refine iteF ?_
          have goOn : lb3 last t = false → ∃ (v1' v2' : Option V) (last' : Option T3), [some (V.ref a), some (V.int (i : Nat)), some xo] = [some (.ref a), v1', v2'] ∧
              wrgF ds none 0 = wrgF (ds.drop (i + 1)) last' (i + 1) ∧ (i + 1 = 0 → last' = none) ∧ ∀ j, i + 1 = j + 1 → ∃ d t, ds[j]? = some d ∧ stpD d = some t ∧ last' = some t := fun z => by
            rw [z, if_neg (by simp)] at inv
            exact ⟨_, _, _, rfl, inv, fun h => by omega, fun j h => by
              obtain rfl : i = j := by omega
              exact ⟨d, t, hd, ed, rfl⟩⟩
          refine ⟨_, rfl, (i : Int), 0, rfl, rfl, _, rfl, ?_⟩
          refine ite2 (fun z => ?_) (fun z => ?_)
          · have z1 : (0 : Int) < i := of_decide_eq_true z
            obtain ⟨j, rfl⟩ : ∃ j, i = j + 1 := ⟨i - 1, by omega⟩
            obtain ⟨dp, tp, hp1, hp2, rfl⟩ := l1 j rfl
            obtain ⟨vp, hvp, dvp⟩ := all.at' hp1
            obtain ⟨a1, rfl, ha1⟩ := stp_at (Da.same s3 _ _ dv2) ed
            obtain ⟨a2, rfl, ha2⟩ := stp_at (Da.same s23 _ _ dvp) hp2
            refine ⟨_, rfl, _, rfl, _, rfl, _, _, rfl, rfl, a, _, (j : Int), V.ref a2, rfl, ?_, SqT.of (s23 _ _ ha), atI_nat hvp, a1, a2, t, tp, rfl, rfl, ha1, ha2, _, rfl, ?_⟩
            · show V.int (((j + 1 : Nat) : Int) - 1) = V.int (j : Int)
              congr 1
              omega
            cases eb2 : lt3 tp t with
            | true =>
              obtain ⟨w1, w2, w3, w4, w5⟩ := goOn (by show (!lt3 tp t) = false; rw [eb2]; rfl)
              exact iteF ⟨w1, w2, w3, w4, s23, w5⟩
            | false =>
              rw [show lb3 (some tp) t = !lt3 tp t from rfl, eb2, if_pos (show (!false) = true from rfl)] at inv
              exact iteT ⟨_, rfl, rfl, rfl, (by show 1 ≤ 1000; decide), fun a na => ⟨a, .int ((j + 1 : Nat) : Nat), rfl, upd_same, fun dx hn ne => ⟨rfl, fin s23 na (qr _ inv) dx hn ne⟩⟩⟩
          · have i0 : i = 0 := by
              have : ¬ (0 : Int) < i := fun k => z (decide_eq_true k)
              omega
            have l9 := l0 i0
            subst l9
            obtain ⟨w1, w2, w3, w4, w5⟩ := goOn rfl
            exact iteF ⟨w1, w2, w3, w4, s23, w5⟩
      · rintro σ H1 ⟨v1, v2, last, rfl, s1, inv, _, _⟩
        rw [all.len, List.drop_length] at inv
        have inv : wrgF ds none 0 = none := inv
        obtain ⟨jf, rfl⟩ : JF H a ∧ r = .int (-1) := by
          rcases bad with ⟨z, _⟩ | ⟨k, _, z, _⟩ | ⟨_, _, z1, z2⟩
          · exact absurd z hd0
          · rw [inv] at z
            cases z
          · exact ⟨z1, z2⟩
        refine ⟨_, rfl, a, rfl, jf.same s1, fun H2 s2 => ⟨_, rfl, iteT ?_⟩⟩
        have s12 := s1.trans s2
        exact ⟨1, rfl, rfl, rfl, (by show 1 ≤ 1000; decide), fun a na => ⟨a, .int (-1), rfl, upd_same, fun dx hn ne => ⟨rfl, fin s12 na q dx hn ne⟩⟩⟩
end
end K34

set_option Elab.async false
set_option linter.all false
set_option maxRecDepth 100000
set_option maxHeartbeats 4000000
/-! What the functions on weavings, scores, turned weavings, texts do with what is no framing. -/
namespace K34
open PySem L2 L2.EV
theorem pss_never {X : Cx} {ss : List Stmt} : PSs X ss tNever := ⟨fun _ _ _ _ _ _ h => h.elim⟩
abbrev sNeedWeaving : Stmt := top 29
abbrev sFileOf : Stmt := top 31
abbrev sReadLines : Stmt := top 33
abbrev sRestOf : Stmt := top 34
abbrev sIsWholeLine : Stmt := top 36
abbrev sStands : Stmt := top 37
abbrev sNeedScore : Stmt := top 41
abbrev sCount : Stmt := top 44
abbrev sCountClean : Stmt := top 45
abbrev sWeavingAt : Stmt := top 48
abbrev sWeavingNumber : Stmt := top 50
abbrev sIsClean : Stmt := top 51
abbrev sNeedTurned : Stmt := top 59
abbrev sFiles : Stmt := top 62
abbrev sFates : Stmt := top 66
abbrev sCheckedTraces : Stmt := top 80
abbrev sPossible : Stmt := top 81
abbrev sVerdicts : Stmt := top 84
abbrev sExplained : Stmt := top 82
structure Cs (K : PySem.W.Frag) (mg : Str → Option Value) where
  Z : Fs K mg
  le : mg "len" = none
  fNeedWeaving : Addr
  dNeedWeaving : FuncData
  FNeedWeaving : Fun K "need_weaving" "need_weaving" sNeedWeaving fNeedWeaving dNeedWeaving
  bNeedWeaving : Binds K dNeedWeaving ["framing", "thing"] []
  mNeedWeaving : mg "need_weaving" = some (.ref fNeedWeaving)
  fFileOf : Addr
  dFileOf : FuncData
  FFileOf : Fun K "file_of" "file_of" sFileOf fFileOf dFileOf
  bFileOf : Binds K dFileOf ["framing", "weaving"] []
  mFileOf : mg "file_of" = some (.ref fFileOf)
  fReadLines : Addr
  dReadLines : FuncData
  FReadLines : Fun K "read_lines" "read_lines" sReadLines fReadLines dReadLines
  bReadLines : Binds K dReadLines ["framing", "weaving"] []
  mReadLines : mg "read_lines" = some (.ref fReadLines)
  fRestOf : Addr
  dRestOf : FuncData
  FRestOf : Fun K "rest_of" "rest_of" sRestOf fRestOf dRestOf
  bRestOf : Binds K dRestOf ["framing", "weaving"] []
  mRestOf : mg "rest_of" = some (.ref fRestOf)
  fIsWholeLine : Addr
  dIsWholeLine : FuncData
  FIsWholeLine : Fun K "is_whole_line" "is_whole_line" sIsWholeLine fIsWholeLine dIsWholeLine
  bIsWholeLine : Binds K dIsWholeLine ["framing", "entries"] []
  mIsWholeLine : mg "is_whole_line" = some (.ref fIsWholeLine)
  fStands : Addr
  dStands : FuncData
  FStands : Fun K "stands" "stands" sStands fStands dStands
  bStands : Binds K dStands ["framing", "weaving"] []
  mStands : mg "stands" = some (.ref fStands)
  fNeedScore : Addr
  dNeedScore : FuncData
  FNeedScore : Fun K "need_score" "need_score" sNeedScore fNeedScore dNeedScore
  bNeedScore : Binds K dNeedScore ["framing", "thing"] []
  mNeedScore : mg "need_score" = some (.ref fNeedScore)
  fCount : Addr
  dCount : FuncData
  FCount : Fun K "count" "count" sCount fCount dCount
  bCount : Binds K dCount ["framing", "score"] []
  mCount : mg "count" = some (.ref fCount)
  fCountClean : Addr
  dCountClean : FuncData
  FCountClean : Fun K "count_clean" "count_clean" sCountClean fCountClean dCountClean
  bCountClean : Binds K dCountClean ["framing", "score"] []
  mCountClean : mg "count_clean" = some (.ref fCountClean)
  fWeavingAt : Addr
  dWeavingAt : FuncData
  FWeavingAt : Fun K "weaving_at" "weaving_at" sWeavingAt fWeavingAt dWeavingAt
  bWeavingAt : Binds K dWeavingAt ["framing", "score", "number"] []
  mWeavingAt : mg "weaving_at" = some (.ref fWeavingAt)
  fWeavingNumber : Addr
  dWeavingNumber : FuncData
  FWeavingNumber : Fun K "weaving_number" "weaving_number" sWeavingNumber fWeavingNumber dWeavingNumber
  bWeavingNumber : Binds K dWeavingNumber ["framing", "score", "weaving"] []
  mWeavingNumber : mg "weaving_number" = some (.ref fWeavingNumber)
  fIsClean : Addr
  dIsClean : FuncData
  FIsClean : Fun K "is_clean" "is_clean" sIsClean fIsClean dIsClean
  bIsClean : Binds K dIsClean ["framing", "weaving"] []
  mIsClean : mg "is_clean" = some (.ref fIsClean)
  fNeedTurned : Addr
  dNeedTurned : FuncData
  FNeedTurned : Fun K "need_turned" "need_turned" sNeedTurned fNeedTurned dNeedTurned
  bNeedTurned : Binds K dNeedTurned ["framing", "thing"] []
  mNeedTurned : mg "need_turned" = some (.ref fNeedTurned)
  fFiles : Addr
  dFiles : FuncData
  FFiles : Fun K "files" "files" sFiles fFiles dFiles
  bFiles : Binds K dFiles ["framing", "thing", "manner"] []
  mFiles : mg "files" = some (.ref fFiles)
  fFates : Addr
  dFates : FuncData
  FFates : Fun K "fates" "fates" sFates fFates dFates
  bFates : Binds K dFates ["framing", "thing", "manner"] []
  mFates : mg "fates" = some (.ref fFates)
  fCheckedTraces : Addr
  dCheckedTraces : FuncData
  FCheckedTraces : Fun K "checked_traces" "checked_traces" sCheckedTraces fCheckedTraces dCheckedTraces
  bCheckedTraces : Binds K dCheckedTraces ["framing", "text", "writers"] []
  mCheckedTraces : mg "checked_traces" = some (.ref fCheckedTraces)
  fPossible : Addr
  dPossible : FuncData
  FPossible : Fun K "possible" "possible" sPossible fPossible dPossible
  bPossible : Binds K dPossible ["framing", "text", "writers"] []
  mPossible : mg "possible" = some (.ref fPossible)
  fVerdicts : Addr
  dVerdicts : FuncData
  FVerdicts : Fun K "verdicts" "verdicts" sVerdicts fVerdicts dVerdicts
  bVerdicts : Binds K dVerdicts ["framing", "text", "writers"] []
  mVerdicts : mg "verdicts" = some (.ref fVerdicts)
  fExplained : Addr
  dExplained : FuncData
  FExplained : Fun K "explained" "explained" sExplained fExplained dExplained
  bExplained : Binds K dExplained ["framing", "text", "writers"] []
  mExplained : mg "explained" = some (.ref fExplained)
/-- what is no framing, first -/
def spFx (C : Addr) (k : Nat) : Sp := fun vs H Q E => ∃ (v : V) (rest : List V) (r : V), vs = v :: rest ∧ rest.length = k ∧ Bad H v r ∧ Eb C E H r
theorem len1 {rest : List V} (h : rest.length = 1) : ∃ x, rest = [x] := List.length_eq_one_iff.mp h
theorem len2 {rest : List V} (h : rest.length = 2) : ∃ x y, rest = [x, y] := match rest, h with
  | [x, y], _ => ⟨x, y, rfl⟩
section
variable {P : Program} {w : World} {K : PySem.W.Frag} {mg : Str → Option Value} {base : Heap}
theorem scNeedWeaving : FnScope ["framing", "thing"] ["framing", "thing"] (defScope sNeedWeaving) := ⟨rfl, rfl, rfl, by decide +kernel, rfl, by decide +kernel, by decide +kernel⟩
theorem ok_NeedWeaving (S : Cs K mg) : FnOk P w K mg base (L2.CX P w) 4 S.fNeedWeaving S.dNeedWeaving ["framing", "thing"] (spFx S.Z.B.C 1) := by
  have G : FnOk P w K mg base (L2.CX P w) 3 S.Z.fF S.Z.dF ["thing"] (spNeedFX S.Z.B.C) := ok_needFX S.Z
  refine S.FNeedWeaving.okX scNeedWeaving (fun vs H Q E h => ?_) (fun cdv A outer s H vs Q E hr h => ?_)
  · obtain ⟨v, rest, r, rfl, l, _⟩ := h
    rw [List.length_cons, l]
    rfl
  · obtain ⟨v, rest, r, rfl, l, bad, q⟩ := h
    obtain ⟨x, rfl⟩ := len1 l
    exact ⟨_, pss_cons (ps_expr (pe_call G (hr.mono (by omega)) (by rfl) S.Z.mF S.Z.F.kp S.Z.bF .nil (passes_call (E := E) (takes_of rfl rfl rfl rfl) fun _ _ _ _ h => h) (pa_cons (pv 0) pa_nil))) pss_never, _, rfl, ⟨v, r, rfl, bad, q⟩⟩
theorem scFileOf : FnScope ["framing", "weaving"] ["framing", "weaving"] (defScope sFileOf) := ⟨rfl, rfl, rfl, by decide +kernel, rfl, by decide +kernel, by decide +kernel⟩
theorem ok_FileOf (S : Cs K mg) : FnOk P w K mg base (L2.CX P w) 5 S.fFileOf S.dFileOf ["framing", "weaving"] (spFx S.Z.B.C 1) := by
  have G : FnOk P w K mg base (L2.CX P w) 4 S.fNeedWeaving S.dNeedWeaving ["framing", "thing"] (spFx S.Z.B.C 1) := ok_NeedWeaving S
  refine S.FFileOf.okX scFileOf (fun vs H Q E h => ?_) (fun cdv A outer s H vs Q E hr h => ?_)
  · obtain ⟨v, rest, r, rfl, l, _⟩ := h
    rw [List.length_cons, l]
    rfl
  · obtain ⟨v, rest, r, rfl, l, bad, q⟩ := h
    obtain ⟨x, rfl⟩ := len1 l
    exact ⟨_, pss_cons (ps_expr (pe_call G (hr.mono (by omega)) (by rfl) S.mNeedWeaving S.FNeedWeaving.kp S.bNeedWeaving .nil (passes_call (E := E) (takes_of rfl rfl rfl rfl) fun _ _ _ _ h => h) (pa_cons (pv 0) (pa_cons (pv 1) pa_nil)))) pss_never, _, rfl, _, rfl, ⟨v, _, r, rfl, rfl, bad, q⟩⟩
theorem scReadLines : FnScope ["framing", "weaving"] ["framing", "weaving"] (defScope sReadLines) := ⟨rfl, rfl, rfl, by decide +kernel, rfl, by decide +kernel, by decide +kernel⟩
theorem ok_ReadLines (S : Cs K mg) : FnOk P w K mg base (L2.CX P w) 5 S.fReadLines S.dReadLines ["framing", "weaving"] (spFx S.Z.B.C 1) := by
  have G : FnOk P w K mg base (L2.CX P w) 4 S.fNeedWeaving S.dNeedWeaving ["framing", "thing"] (spFx S.Z.B.C 1) := ok_NeedWeaving S
  refine S.FReadLines.okX scReadLines (fun vs H Q E h => ?_) (fun cdv A outer s H vs Q E hr h => ?_)
  · obtain ⟨v, rest, r, rfl, l, _⟩ := h
    rw [List.length_cons, l]
    rfl
  · obtain ⟨v, rest, r, rfl, l, bad, q⟩ := h
    obtain ⟨x, rfl⟩ := len1 l
    exact ⟨_, pss_cons (ps_expr (pe_call G (hr.mono (by omega)) (by rfl) S.mNeedWeaving S.FNeedWeaving.kp S.bNeedWeaving .nil (passes_call (E := E) (takes_of rfl rfl rfl rfl) fun _ _ _ _ h => h) (pa_cons (pv 0) (pa_cons (pv 1) pa_nil)))) pss_never, _, rfl, _, rfl, ⟨v, _, r, rfl, rfl, bad, q⟩⟩
theorem scRestOf : FnScope ["framing", "weaving"] ["framing", "weaving"] (defScope sRestOf) := ⟨rfl, rfl, rfl, by decide +kernel, rfl, by decide +kernel, by decide +kernel⟩
theorem ok_RestOf (S : Cs K mg) : FnOk P w K mg base (L2.CX P w) 5 S.fRestOf S.dRestOf ["framing", "weaving"] (spFx S.Z.B.C 1) := by
  have G : FnOk P w K mg base (L2.CX P w) 4 S.fNeedWeaving S.dNeedWeaving ["framing", "thing"] (spFx S.Z.B.C 1) := ok_NeedWeaving S
  refine S.FRestOf.okX scRestOf (fun vs H Q E h => ?_) (fun cdv A outer s H vs Q E hr h => ?_)
  · obtain ⟨v, rest, r, rfl, l, _⟩ := h
    rw [List.length_cons, l]
    rfl
  · obtain ⟨v, rest, r, rfl, l, bad, q⟩ := h
    obtain ⟨x, rfl⟩ := len1 l
    exact ⟨_, pss_cons (ps_expr (pe_call G (hr.mono (by omega)) (by rfl) S.mNeedWeaving S.FNeedWeaving.kp S.bNeedWeaving .nil (passes_call (E := E) (takes_of rfl rfl rfl rfl) fun _ _ _ _ h => h) (pa_cons (pv 0) (pa_cons (pv 1) pa_nil)))) pss_never, _, rfl, _, rfl, ⟨v, _, r, rfl, rfl, bad, q⟩⟩
theorem scIsWholeLine : FnScope ["framing", "entries"] ["framing", "entries"] (defScope sIsWholeLine) := ⟨rfl, rfl, rfl, by decide +kernel, rfl, by decide +kernel, by decide +kernel⟩
theorem ok_IsWholeLine (S : Cs K mg) : FnOk P w K mg base (L2.CX P w) 4 S.fIsWholeLine S.dIsWholeLine ["framing", "entries"] (spFx S.Z.B.C 1) := by
  have G : FnOk P w K mg base (L2.CX P w) 3 S.Z.fF S.Z.dF ["thing"] (spNeedFX S.Z.B.C) := ok_needFX S.Z
  refine S.FIsWholeLine.okX scIsWholeLine (fun vs H Q E h => ?_) (fun cdv A outer s H vs Q E hr h => ?_)
  · obtain ⟨v, rest, r, rfl, l, _⟩ := h
    rw [List.length_cons, l]
    rfl
  · obtain ⟨v, rest, r, rfl, l, bad, q⟩ := h
    obtain ⟨x, rfl⟩ := len1 l
    exact ⟨_, pss_cons (ps_expr (pe_call G (hr.mono (by omega)) (by rfl) S.Z.mF S.Z.F.kp S.Z.bF .nil (passes_call (E := E) (takes_of rfl rfl rfl rfl) fun _ _ _ _ h => h) (pa_cons (pv 0) pa_nil))) pss_never, _, rfl, ⟨v, r, rfl, bad, q⟩⟩
theorem scStands : FnScope ["framing", "weaving"] ["framing", "weaving"] (defScope sStands) := ⟨rfl, rfl, rfl, by decide +kernel, rfl, by decide +kernel, by decide +kernel⟩
theorem ok_Stands (S : Cs K mg) : FnOk P w K mg base (L2.CX P w) 5 S.fStands S.dStands ["framing", "weaving"] (spFx S.Z.B.C 1) := by
  have G : FnOk P w K mg base (L2.CX P w) 4 S.fNeedWeaving S.dNeedWeaving ["framing", "thing"] (spFx S.Z.B.C 1) := ok_NeedWeaving S
  refine S.FStands.okX scStands (fun vs H Q E h => ?_) (fun cdv A outer s H vs Q E hr h => ?_)
  · obtain ⟨v, rest, r, rfl, l, _⟩ := h
    rw [List.length_cons, l]
    rfl
  · obtain ⟨v, rest, r, rfl, l, bad, q⟩ := h
    obtain ⟨x, rfl⟩ := len1 l
    exact ⟨_, pss_cons (ps_expr (pe_call G (hr.mono (by omega)) (by rfl) S.mNeedWeaving S.FNeedWeaving.kp S.bNeedWeaving .nil (passes_call (E := E) (takes_of rfl rfl rfl rfl) fun _ _ _ _ h => h) (pa_cons (pv 0) (pa_cons (pv 1) pa_nil)))) pss_never, _, rfl, _, rfl, ⟨v, _, r, rfl, rfl, bad, q⟩⟩
theorem scNeedScore : FnScope ["framing", "thing"] ["framing", "thing"] (defScope sNeedScore) := ⟨rfl, rfl, rfl, by decide +kernel, rfl, by decide +kernel, by decide +kernel⟩
theorem ok_NeedScore (S : Cs K mg) : FnOk P w K mg base (L2.CX P w) 4 S.fNeedScore S.dNeedScore ["framing", "thing"] (spFx S.Z.B.C 1) := by
  have G : FnOk P w K mg base (L2.CX P w) 3 S.Z.fF S.Z.dF ["thing"] (spNeedFX S.Z.B.C) := ok_needFX S.Z
  refine S.FNeedScore.okX scNeedScore (fun vs H Q E h => ?_) (fun cdv A outer s H vs Q E hr h => ?_)
  · obtain ⟨v, rest, r, rfl, l, _⟩ := h
    rw [List.length_cons, l]
    rfl
  · obtain ⟨v, rest, r, rfl, l, bad, q⟩ := h
    obtain ⟨x, rfl⟩ := len1 l
    exact ⟨_, pss_cons (ps_expr (pe_call G (hr.mono (by omega)) (by rfl) S.Z.mF S.Z.F.kp S.Z.bF .nil (passes_call (E := E) (takes_of rfl rfl rfl rfl) fun _ _ _ _ h => h) (pa_cons (pv 0) pa_nil))) pss_never, _, rfl, ⟨v, r, rfl, bad, q⟩⟩
theorem scCount : FnScope ["framing", "score"] ["framing", "score"] (defScope sCount) := ⟨rfl, rfl, rfl, by decide +kernel, rfl, by decide +kernel, by decide +kernel⟩
theorem ok_Count (S : Cs K mg) : FnOk P w K mg base (L2.CX P w) 5 S.fCount S.dCount ["framing", "score"] (spFx S.Z.B.C 1) := by
  have G : FnOk P w K mg base (L2.CX P w) 4 S.fNeedScore S.dNeedScore ["framing", "thing"] (spFx S.Z.B.C 1) := ok_NeedScore S
  refine S.FCount.okX scCount (fun vs H Q E h => ?_) (fun cdv A outer s H vs Q E hr h => ?_)
  · obtain ⟨v, rest, r, rfl, l, _⟩ := h
    rw [List.length_cons, l]
    rfl
  · obtain ⟨v, rest, r, rfl, l, bad, q⟩ := h
    obtain ⟨x, rfl⟩ := len1 l
    exact ⟨_, pss_cons (ps_expr (pe_call G (hr.mono (by omega)) (by rfl) S.mNeedScore S.FNeedScore.kp S.bNeedScore .nil (passes_call (E := E) (takes_of rfl rfl rfl rfl) fun _ _ _ _ h => h) (pa_cons (pv 0) (pa_cons (pv 1) pa_nil)))) pss_never, _, rfl, _, rfl, ⟨v, _, r, rfl, rfl, bad, q⟩⟩
theorem scCountClean : FnScope ["framing", "score"] ["framing", "score"] (defScope sCountClean) := ⟨rfl, rfl, rfl, by decide +kernel, rfl, by decide +kernel, by decide +kernel⟩
theorem ok_CountClean (S : Cs K mg) : FnOk P w K mg base (L2.CX P w) 5 S.fCountClean S.dCountClean ["framing", "score"] (spFx S.Z.B.C 1) := by
  have G : FnOk P w K mg base (L2.CX P w) 4 S.fNeedScore S.dNeedScore ["framing", "thing"] (spFx S.Z.B.C 1) := ok_NeedScore S
  refine S.FCountClean.okX scCountClean (fun vs H Q E h => ?_) (fun cdv A outer s H vs Q E hr h => ?_)
  · obtain ⟨v, rest, r, rfl, l, _⟩ := h
    rw [List.length_cons, l]
    rfl
  · obtain ⟨v, rest, r, rfl, l, bad, q⟩ := h
    obtain ⟨x, rfl⟩ := len1 l
    exact ⟨_, pss_cons (ps_expr (pe_call G (hr.mono (by omega)) (by rfl) S.mNeedScore S.FNeedScore.kp S.bNeedScore .nil (passes_call (E := E) (takes_of rfl rfl rfl rfl) fun _ _ _ _ h => h) (pa_cons (pv 0) (pa_cons (pv 1) pa_nil)))) pss_never, _, rfl, _, rfl, ⟨v, _, r, rfl, rfl, bad, q⟩⟩
theorem scWeavingAt : FnScope ["framing", "score", "number"] ["framing", "score", "number"] (defScope sWeavingAt) := ⟨rfl, rfl, rfl, by decide +kernel, rfl, by decide +kernel, by decide +kernel⟩
theorem ok_WeavingAt (S : Cs K mg) : FnOk P w K mg base (L2.CX P w) 5 S.fWeavingAt S.dWeavingAt ["framing", "score", "number"] (spFx S.Z.B.C 2) := by
  have G : FnOk P w K mg base (L2.CX P w) 4 S.fNeedScore S.dNeedScore ["framing", "thing"] (spFx S.Z.B.C 1) := ok_NeedScore S
  refine S.FWeavingAt.okX scWeavingAt (fun vs H Q E h => ?_) (fun cdv A outer s H vs Q E hr h => ?_)
  · obtain ⟨v, rest, r, rfl, l, _⟩ := h
    rw [List.length_cons, l]
    rfl
  · obtain ⟨v, rest, r, rfl, l, bad, q⟩ := h
    obtain ⟨x, y, rfl⟩ := len2 l
    exact ⟨_, pss_cons (ps_expr (pe_call G (hr.mono (by omega)) (by rfl) S.mNeedScore S.FNeedScore.kp S.bNeedScore .nil (passes_call (E := E) (takes_of rfl rfl rfl rfl) fun _ _ _ _ h => h) (pa_cons (pv 0) (pa_cons (pv 1) pa_nil)))) pss_never, _, rfl, _, rfl, ⟨v, _, r, rfl, rfl, bad, q⟩⟩
theorem scWeavingNumber : FnScope ["framing", "score", "weaving"] ["framing", "score", "weaving"] (defScope sWeavingNumber) := ⟨rfl, rfl, rfl, by decide +kernel, rfl, by decide +kernel, by decide +kernel⟩
theorem ok_WeavingNumber (S : Cs K mg) : FnOk P w K mg base (L2.CX P w) 5 S.fWeavingNumber S.dWeavingNumber ["framing", "score", "weaving"] (spFx S.Z.B.C 2) := by
  have G : FnOk P w K mg base (L2.CX P w) 4 S.fNeedScore S.dNeedScore ["framing", "thing"] (spFx S.Z.B.C 1) := ok_NeedScore S
  refine S.FWeavingNumber.okX scWeavingNumber (fun vs H Q E h => ?_) (fun cdv A outer s H vs Q E hr h => ?_)
  · obtain ⟨v, rest, r, rfl, l, _⟩ := h
    rw [List.length_cons, l]
    rfl
  · obtain ⟨v, rest, r, rfl, l, bad, q⟩ := h
    obtain ⟨x, y, rfl⟩ := len2 l
    exact ⟨_, pss_cons (ps_expr (pe_call G (hr.mono (by omega)) (by rfl) S.mNeedScore S.FNeedScore.kp S.bNeedScore .nil (passes_call (E := E) (takes_of rfl rfl rfl rfl) fun _ _ _ _ h => h) (pa_cons (pv 0) (pa_cons (pv 1) pa_nil)))) pss_never, _, rfl, _, rfl, ⟨v, _, r, rfl, rfl, bad, q⟩⟩
theorem scIsClean : FnScope ["framing", "weaving", "lines"] ["framing", "weaving"] (defScope sIsClean) := ⟨rfl, rfl, rfl, by decide +kernel, rfl, by decide +kernel, by decide +kernel⟩
theorem ok_IsClean (S : Cs K mg) : FnOk P w K mg base (L2.CX P w) 6 S.fIsClean S.dIsClean ["framing", "weaving"] (spFx S.Z.B.C 1) := by
  have G : FnOk P w K mg base (L2.CX P w) 5 S.fReadLines S.dReadLines ["framing", "weaving"] (spFx S.Z.B.C 1) := ok_ReadLines S
  refine S.FIsClean.okX scIsClean (fun vs H Q E h => ?_) (fun cdv A outer s H vs Q E hr h => ?_)
  · obtain ⟨v, rest, r, rfl, l, _⟩ := h
    rw [List.length_cons, l]
    rfl
  · obtain ⟨v, rest, r, rfl, l, bad, q⟩ := h
    obtain ⟨x, rfl⟩ := len1 l
    exact ⟨_, pss_cons (ps_set (i := 2) scIsClean.nd rfl (Or.inl rfl) (pe_call G (hr.mono (by omega)) (by rfl) S.mReadLines S.FReadLines.kp S.bReadLines .nil (passes_call (E := E) (takes_of rfl rfl rfl rfl) fun _ _ _ _ h => h) (pa_cons (pv 0) (pa_cons (pv 1) pa_nil)))) pss_never, _, rfl, _, rfl, ⟨v, _, r, rfl, rfl, bad, q⟩⟩
theorem scNeedTurned : FnScope ["framing", "thing"] ["framing", "thing"] (defScope sNeedTurned) := ⟨rfl, rfl, rfl, by decide +kernel, rfl, by decide +kernel, by decide +kernel⟩
theorem ok_NeedTurned (S : Cs K mg) : FnOk P w K mg base (L2.CX P w) 4 S.fNeedTurned S.dNeedTurned ["framing", "thing"] (spFx S.Z.B.C 1) := by
  have G : FnOk P w K mg base (L2.CX P w) 3 S.Z.fF S.Z.dF ["thing"] (spNeedFX S.Z.B.C) := ok_needFX S.Z
  refine S.FNeedTurned.okX scNeedTurned (fun vs H Q E h => ?_) (fun cdv A outer s H vs Q E hr h => ?_)
  · obtain ⟨v, rest, r, rfl, l, _⟩ := h
    rw [List.length_cons, l]
    rfl
  · obtain ⟨v, rest, r, rfl, l, bad, q⟩ := h
    obtain ⟨x, rfl⟩ := len1 l
    exact ⟨_, pss_cons (ps_expr (pe_call G (hr.mono (by omega)) (by rfl) S.Z.mF S.Z.F.kp S.Z.bF .nil (passes_call (E := E) (takes_of rfl rfl rfl rfl) fun _ _ _ _ h => h) (pa_cons (pv 0) pa_nil))) pss_never, _, rfl, ⟨v, r, rfl, bad, q⟩⟩
theorem scFiles : FnScope ["framing", "thing", "manner"] ["framing", "thing", "manner"] (defScope sFiles) := ⟨rfl, rfl, rfl, by decide +kernel, rfl, by decide +kernel, by decide +kernel⟩
theorem ok_Files (S : Cs K mg) : FnOk P w K mg base (L2.CX P w) 5 S.fFiles S.dFiles ["framing", "thing", "manner"] (spFx S.Z.B.C 2) := by
  have G : FnOk P w K mg base (L2.CX P w) 4 S.fNeedTurned S.dNeedTurned ["framing", "thing"] (spFx S.Z.B.C 1) := ok_NeedTurned S
  refine S.FFiles.okX scFiles (fun vs H Q E h => ?_) (fun cdv A outer s H vs Q E hr h => ?_)
  · obtain ⟨v, rest, r, rfl, l, _⟩ := h
    rw [List.length_cons, l]
    rfl
  · obtain ⟨v, rest, r, rfl, l, bad, q⟩ := h
    obtain ⟨x, y, rfl⟩ := len2 l
    exact ⟨_, pss_cons (ps_expr (pe_call G (hr.mono (by omega)) (by rfl) S.mNeedTurned S.FNeedTurned.kp S.bNeedTurned .nil (passes_call (E := E) (takes_of rfl rfl rfl rfl) fun _ _ _ _ h => h) (pa_cons (pv 0) (pa_cons (pv 1) pa_nil)))) pss_never, _, rfl, _, rfl, ⟨v, _, r, rfl, rfl, bad, q⟩⟩
theorem scFates : FnScope ["framing", "thing", "manner"] ["framing", "thing", "manner"] (defScope sFates) := ⟨rfl, rfl, rfl, by decide +kernel, rfl, by decide +kernel, by decide +kernel⟩
theorem ok_Fates (S : Cs K mg) : FnOk P w K mg base (L2.CX P w) 5 S.fFates S.dFates ["framing", "thing", "manner"] (spFx S.Z.B.C 2) := by
  have G : FnOk P w K mg base (L2.CX P w) 4 S.fNeedTurned S.dNeedTurned ["framing", "thing"] (spFx S.Z.B.C 1) := ok_NeedTurned S
  refine S.FFates.okX scFates (fun vs H Q E h => ?_) (fun cdv A outer s H vs Q E hr h => ?_)
  · obtain ⟨v, rest, r, rfl, l, _⟩ := h
    rw [List.length_cons, l]
    rfl
  · obtain ⟨v, rest, r, rfl, l, bad, q⟩ := h
    obtain ⟨x, y, rfl⟩ := len2 l
    exact ⟨_, pss_cons (ps_expr (pe_call G (hr.mono (by omega)) (by rfl) S.mNeedTurned S.FNeedTurned.kp S.bNeedTurned .nil (passes_call (E := E) (takes_of rfl rfl rfl rfl) fun _ _ _ _ h => h) (pa_cons (pv 0) (pa_cons (pv 1) pa_nil)))) pss_never, _, rfl, _, rfl, ⟨v, _, r, rfl, rfl, bad, q⟩⟩
theorem scCheckedTraces : FnScope ["framing", "text", "writers"] ["framing", "text", "writers"] (defScope sCheckedTraces) := ⟨rfl, rfl, rfl, by decide +kernel, rfl, by decide +kernel, by decide +kernel⟩
theorem ok_CheckedTraces (S : Cs K mg) : FnOk P w K mg base (L2.CX P w) 4 S.fCheckedTraces S.dCheckedTraces ["framing", "text", "writers"] (spFx S.Z.B.C 2) := by
  have G : FnOk P w K mg base (L2.CX P w) 3 S.Z.fF S.Z.dF ["thing"] (spNeedFX S.Z.B.C) := ok_needFX S.Z
  refine S.FCheckedTraces.okX scCheckedTraces (fun vs H Q E h => ?_) (fun cdv A outer s H vs Q E hr h => ?_)
  · obtain ⟨v, rest, r, rfl, l, _⟩ := h
    rw [List.length_cons, l]
    rfl
  · obtain ⟨v, rest, r, rfl, l, bad, q⟩ := h
    obtain ⟨x, y, rfl⟩ := len2 l
    exact ⟨_, pss_cons (ps_expr (pe_call G (hr.mono (by omega)) (by rfl) S.Z.mF S.Z.F.kp S.Z.bF .nil (passes_call (E := E) (takes_of rfl rfl rfl rfl) fun _ _ _ _ h => h) (pa_cons (pv 0) pa_nil))) pss_never, _, rfl, ⟨v, r, rfl, bad, q⟩⟩
theorem scPossible : FnScope ["framing", "text", "writers"] ["framing", "text", "writers"] (defScope sPossible) := ⟨rfl, rfl, rfl, by decide +kernel, rfl, by decide +kernel, by decide +kernel⟩
theorem ok_Possible (S : Cs K mg) : FnOk P w K mg base (L2.CX P w) 5 S.fPossible S.dPossible ["framing", "text", "writers"] (spFx S.Z.B.C 2) := by
  have G : FnOk P w K mg base (L2.CX P w) 4 S.fCheckedTraces S.dCheckedTraces ["framing", "text", "writers"] (spFx S.Z.B.C 2) := ok_CheckedTraces S
  refine S.FPossible.okX scPossible (fun vs H Q E h => ?_) (fun cdv A outer s H vs Q E hr h => ?_)
  · obtain ⟨v, rest, r, rfl, l, _⟩ := h
    rw [List.length_cons, l]
    rfl
  · obtain ⟨v, rest, r, rfl, l, bad, q⟩ := h
    obtain ⟨x, y, rfl⟩ := len2 l
    exact ⟨_, pss_one (ps_ret (pe_cmpR op_gt (pe_callB call_len_seq (by rfl) S.le PySem.boot_len (pa_cons (pe_ix ix_list (pe_call G (hr.mono (by omega)) (by rfl) S.mCheckedTraces S.FCheckedTraces.kp S.bCheckedTraces .nil (passes_call (E := E) (takes_of rfl rfl rfl rfl) fun _ _ _ _ h => h) (pa_cons (pv 0) (pa_cons (pv 1) (pa_cons (pv 2) pa_nil)))) (pe_un un_neg pe_int) (fun _ _ => rfl)) pa_nil)) pe_int (nomark _))), _, rfl, _, rfl, _, rfl, ⟨v, _, r, rfl, rfl, bad, q⟩⟩
theorem scVerdicts : FnScope ["framing", "text", "writers", "layers"] ["framing", "text", "writers"] (defScope sVerdicts) := ⟨rfl, rfl, rfl, by decide +kernel, rfl, by decide +kernel, by decide +kernel⟩
theorem ok_Verdicts (S : Cs K mg) : FnOk P w K mg base (L2.CX P w) 5 S.fVerdicts S.dVerdicts ["framing", "text", "writers"] (spFx S.Z.B.C 2) := by
  have G : FnOk P w K mg base (L2.CX P w) 4 S.fCheckedTraces S.dCheckedTraces ["framing", "text", "writers"] (spFx S.Z.B.C 2) := ok_CheckedTraces S
  refine S.FVerdicts.okX scVerdicts (fun vs H Q E h => ?_) (fun cdv A outer s H vs Q E hr h => ?_)
  · obtain ⟨v, rest, r, rfl, l, _⟩ := h
    rw [List.length_cons, l]
    rfl
  · obtain ⟨v, rest, r, rfl, l, bad, q⟩ := h
    obtain ⟨x, y, rfl⟩ := len2 l
    exact ⟨_, pss_cons (ps_set (i := 3) scVerdicts.nd rfl (Or.inl rfl) (pe_call G (hr.mono (by omega)) (by rfl) S.mCheckedTraces S.FCheckedTraces.kp S.bCheckedTraces .nil (passes_call (E := E) (takes_of rfl rfl rfl rfl) fun _ _ _ _ h => h) (pa_cons (pv 0) (pa_cons (pv 1) (pa_cons (pv 2) pa_nil))))) pss_never, _, rfl, _, rfl, _, rfl, ⟨v, _, r, rfl, rfl, bad, q⟩⟩
theorem scExplained : FnScope ["framing", "text", "writers", "layers"] ["framing", "text", "writers"] (defScope sExplained) := ⟨rfl, rfl, rfl, by decide +kernel, rfl, by decide +kernel, by decide +kernel⟩
theorem ok_Explained (S : Cs K mg) : FnOk P w K mg base (L2.CX P w) 5 S.fExplained S.dExplained ["framing", "text", "writers"] (spFx S.Z.B.C 2) := by
  have G : FnOk P w K mg base (L2.CX P w) 4 S.fCheckedTraces S.dCheckedTraces ["framing", "text", "writers"] (spFx S.Z.B.C 2) := ok_CheckedTraces S
  refine S.FExplained.okX scExplained (fun vs H Q E h => ?_) (fun cdv A outer s H vs Q E hr h => ?_)
  · obtain ⟨v, rest, r, rfl, l, _⟩ := h
    rw [List.length_cons, l]
    rfl
  · obtain ⟨v, rest, r, rfl, l, bad, q⟩ := h
    obtain ⟨x, y, rfl⟩ := len2 l
    exact ⟨_, pss_cons (ps_set (i := 3) scExplained.nd rfl (Or.inl rfl) (pe_call G (hr.mono (by omega)) (by rfl) S.mCheckedTraces S.FCheckedTraces.kp S.bCheckedTraces .nil (passes_call (E := E) (takes_of rfl rfl rfl rfl) fun _ _ _ _ h => h) (pa_cons (pv 0) (pa_cons (pv 1) (pa_cons (pv 2) pa_nil))))) pss_never, _, rfl, _, rfl, _, rfl, ⟨v, _, r, rfl, rfl, bad, q⟩⟩
end
end K34

set_option Elab.async false
set_option linter.all false
set_option maxRecDepth 100000
set_option maxHeartbeats 4000000
/-! The errors' classes; _law_fault; _law_outcome. -/
namespace K34
open PySem L2 L2.EV LamX PySem.Spec
abbrev sFault : Stmt := top 88
abbrev sOutcome : Stmt := top 89
/-- a class D, asked of an error's class at C -/
structure Cl (K : PySem.W.Frag) (mg : Str → Option Value) (C : Addr) (x : Str) (D : Addr) (b : Bool) : Prop where
  m : mg x = some (.ref D)
  su : PySem.W.subIn K (.ref D) (.type "BaseException") = some true
  hd : PySem.W.hasDictIn K D = true
  ty : PySem.W.typeIn K (.ref D) = some (.type "type")
  sb : PySem.W.subIn K (.ref C) (.ref D) = some b
theorem Cl.exm {K : PySem.W.Frag} {mg : Str → Option Value} {C D : Addr} {x : Str} {b : Bool} (c : Cl K mg C x D b) : PySem.W.exmOne K (.ref C) (.ref D) = some b := PySem.W.exm_ref c.su c.hd c.ty c.sb
theorem Cl.kit {K : PySem.W.Frag} {mg : Str → Option Value} {C D : Addr} {x : Str} {b : Bool} (c : Cl K mg C x D b) (own : PySem.W.subIn K (.ref C) (.ref C) = some true) : PySem.W.kitOne K (.ref C) (.ref D) = some b := by
  have e := c.exm
  unfold PySem.W.exmOne at e
  rw [if_pos (by rw [c.su]; rfl)] at e
  unfold PySem.W.kitOne
  by_cases h : C = D
  · subst h
    have z := c.sb
    rw [own] at z
    rw [if_pos (by simp)]
    exact z
  · rw [if_neg (by simpa using h)]
    exact e
structure Fx (K : PySem.W.Frag) (mg : Str → Option Value) where
  O : Bfr K mg
  own : PySem.W.subIn K (.ref O.C) (.ref O.C) = some true
  D1 : Addr
  D2 : Addr
  D3 : Addr
  D4 : Addr
  D5 : Addr
  D6 : Addr
  D7 : Addr
  c0 : Cl K mg O.C "BadFraming" O.C true
  c1 : Cl K mg O.C "BadReader" D1 false
  c2 : Cl K mg O.C "BadWeaving" D2 false
  c3 : Cl K mg O.C "BadText" D3 false
  c4 : Cl K mg O.C "OutOfPlace" D4 false
  c5 : Cl K mg O.C "TooGreat" D5 false
  c6 : Cl K mg O.C "Nothing" D6 false
  c7 : Cl K mg O.C "Held" D7 false
  isi : mg "isinstance" = none
  len : mg "len" = none
def Fx.cs {K : PySem.W.Frag} {mg : Str → Option Value} (F : Fx K mg) : List Value := [.ref F.O.C, .ref F.D1, .ref F.D2, .ref F.D3, .ref F.D4, .ref F.D5, .ref F.D6, .ref F.D7]
theorem Fx.any {K : PySem.W.Frag} {mg : Str → Option Value} (F : Fx K mg) : PySem.W.exmAny K (.ref F.O.C) F.cs = some true := by
  unfold Fx.cs
  simp only [PySem.W.exmAny, F.c0.exm, F.c1.exm, F.c2.exm, F.c3.exm, F.c4.exm, F.c5.exm, F.c6.exm, F.c7.exm]
  rfl
def spFault (C : Addr) : Sp := fun vs H Q _ => ∃ (a dx : Addr) (r : V), vs = [.ref a] ∧ H a = some (exh (.ref C) (some dx) a) ∧ H dx = some (.xd [("number", r)]) ∧ ∀ H' p, Same H H' → H' p = some (.tup [.str "framing", r]) → Q (.ref p) H'
section
variable {K : PySem.W.Frag} {mg : Str → Option Value} {σ : St} {H : Hp} {Q : VK} {C D a dx : Addr} {x : Str} {b : Bool} {r : V}
theorem rd_isc (F : Fx K mg) (h0 : σ[0]? = some (some (.ref a))) (c : Cl K mg F.O.C x D b) (e : H a = some (exh (.ref F.O.C) (some dx) a)) (ed : H dx = some (.xd [("number", r)])) (q : Q (.bl b) H) : tCB (rIsF K) (tCons (tVar 0) (tCons (tC (.ref D)) tNil)) σ H Q :=
  ⟨_, h0, a, F.O.C, dx, _, _, _, _, _, .ref D, .ref D, b, rfl, .own D, F.O.T, e, ed, c.kit F.own, q⟩
end
section
variable {P : Program} {w : World} {K : PySem.W.Frag} {mg : Str → Option Value} {base : Heap}
theorem scFault : FnScope ["e", "told"] ["e"] (defScope sFault) := ⟨rfl, rfl, rfl, by decide +kernel, rfl, by decide +kernel, by decide +kernel⟩
theorem ok_fault {f : Addr} {fd : FuncData} (L : Fun K "_law_fault" "_law_fault" sFault f fd) (F : Fx K mg) : FnOk P w K mg base CX0 1 f fd ["e"] (spFault F.O.C) := by
  refine L.ok scFault (fun vs H Q E h => ?_) (fun cdv A outer s H vs Q E hr h => ?_)
  · obtain ⟨a, dx, r, rfl, _⟩ := h
    rfl
  · obtain ⟨a, dx, r, rfl, e, ed, q⟩ := h
    have XT : XfC K F.O.C := ⟨F.O.T.ga, F.O.T.gg, F.O.T.exC, F.O.T.hd⟩
    refine ⟨_, pss_cons (ps_set (i := 1) scFault.nd rfl (Or.inl rfl) (pe_lst pa_nil))
      (pss_cons (ps_if (pt_val (pe_callB call_isF (by rfl) F.isi PyProof.Rows.boot_isinstance (pa_cons (pv 0) (pa_cons (pe_glob (v := .ref F.O.C) (by rfl) F.c0.m rfl) pa_nil))))
        (pss_one (ps_expr (pe_bm PySem.F.plainAttrs_list PySem.F.slot_list_append PySem.F.type_list_append mt_append (pv 1) (pa_cons (pe_tup (pa_cons pe_str (pa_cons (pe_xg (pv 0)) pa_nil))) pa_nil)))) pss_nil)
      (pss_cons (ps_if (pt_val (pe_callB call_isF (by rfl) F.isi PyProof.Rows.boot_isinstance (pa_cons (pv 0) (pa_cons (pe_glob (v := .ref F.D1) (by rfl) F.c1.m rfl) pa_nil)))) (pss_one ps_never) pss_nil)
      (pss_cons (ps_if (pt_val (pe_callB call_isF (by rfl) F.isi PyProof.Rows.boot_isinstance (pa_cons (pv 0) (pa_cons (pe_glob (v := .ref F.D2) (by rfl) F.c2.m rfl) pa_nil)))) (pss_one ps_never) pss_nil)
      (pss_cons (ps_if (pt_val (pe_callB call_isF (by rfl) F.isi PyProof.Rows.boot_isinstance (pa_cons (pv 0) (pa_cons (pe_glob (v := .ref F.D3) (by rfl) F.c3.m rfl) pa_nil)))) (pss_one ps_never) pss_nil)
      (pss_cons (ps_if (pt_val (pe_callB call_isF (by rfl) F.isi PyProof.Rows.boot_isinstance (pa_cons (pv 0) (pa_cons (pe_glob (v := .ref F.D4) (by rfl) F.c4.m rfl) pa_nil)))) (pss_one ps_never) pss_nil)
      (pss_cons (ps_if (pt_val (pe_callB call_isF (by rfl) F.isi PyProof.Rows.boot_isinstance (pa_cons (pv 0) (pa_cons (pe_glob (v := .ref F.D5) (by rfl) F.c5.m rfl) pa_nil)))) (pss_one ps_never) pss_nil)
      (pss_cons (ps_if (pt_val (pe_callB call_isF (by rfl) F.isi PyProof.Rows.boot_isinstance (pa_cons (pv 0) (pa_cons (pe_glob (v := .ref F.D6) (by rfl) F.c6.m rfl) pa_nil)))) (pss_one ps_never) pss_nil)
      (pss_cons (ps_if (pt_val (pe_callB call_isF (by rfl) F.isi PyProof.Rows.boot_isinstance (pa_cons (pv 0) (pa_cons (pe_glob (v := .ref F.D7) (by rfl) F.c7.m rfl) pa_nil)))) (pss_one ps_never) pss_nil)
      (pss_one (ps_ret (pe_ifExp (pt_cmpR op_eq (pe_callB call_len_seq (by rfl) F.len PySem.boot_len (pa_cons (pv 1) pa_nil)) pe_int (nomark _)) (pe_ix ix_list (pv 1) pe_int (fun _ _ => rfl)) (pe_tup (pa_cons pe_str (pa_cons pe_non pa_nil)))))))))))))), ?_⟩
    refine ⟨(by decide), fun l hl => ?_⟩
    have u0 := same_upd (o := HO.lst []) hl
    have e1 := u0 _ _ e
    have d1 := u0 _ _ ed
    refine rd_isc F rfl F.c0 e1 d1 ⟨_, rfl, iteT ?_⟩
    refine ⟨_, rfl, .inl ⟨rfl, _, SqL.of upd_same⟩, _, rfl, a, F.O.C, dx, _, r, rfl, XT, F.O.n0, e1, d1, rfl, (by show 2 ≤ sizeLine; decide), fun p hp => ⟨l, [], _, rfl, rfl, same_upd hp _ _ upd_same, (by decide), ?_⟩⟩
    have up := same_upd (o := HO.tup [V.str "framing", r]) hp
    have nal : a ≠ l := ne_of_none e hl
    have ndl : dx ≠ l := ne_of_none ed hl
    have npl : p ≠ l := fun z => by
      rw [z, upd_same] at hp
      cases hp
    generalize hH : upd (upd (upd H l (.lst [])) p (.tup [V.str "framing", r])) l (.lst ([] ++ [V.ref p])) = H5
    have e5 : H5 a = some (exh (.ref F.O.C) (some dx) a) := by
      rw [← hH, upd_ne nal]
      exact up _ _ e1
    have d5 : H5 dx = some (.xd [("number", r)]) := by
      rw [← hH, upd_ne ndl]
      exact up _ _ d1
    have l5 : H5 l = some (.lst [V.ref p]) := by
      rw [← hH]
      exact upd_same
    have p5 : H5 p = some (.tup [V.str "framing", r]) := by
      rw [← hH, upd_ne npl]
      exact upd_same
    have s5 : Same H H5 := fun b o z => by
      rw [← hH, upd_ne (ne_of_none z hl)]
      exact up _ _ (same_upd hl _ _ z)
    show tSeq _ _ _ _ H5
    refine rd_isc F rfl F.c1 e5 d5 ⟨_, rfl, iteF ?_⟩
    refine rd_isc F rfl F.c2 e5 d5 ⟨_, rfl, iteF ?_⟩
    refine rd_isc F rfl F.c3 e5 d5 ⟨_, rfl, iteF ?_⟩
    refine rd_isc F rfl F.c4 e5 d5 ⟨_, rfl, iteF ?_⟩
    refine rd_isc F rfl F.c5 e5 d5 ⟨_, rfl, iteF ?_⟩
    refine rd_isc F rfl F.c6 e5 d5 ⟨_, rfl, iteF ?_⟩
    refine rd_isc F rfl F.c7 e5 d5 ⟨_, rfl, iteF ?_⟩
    refine ⟨_, rfl, l, _, rfl, .inl (SqL.of l5), rfl, _, rfl, iteT' (by simp) ?_⟩
    exact ⟨_, rfl, l, _, 0, .ref p, rfl, rfl, SqL.of l5, atI_nat (j := 0) rfl, q H5 p s5 p5⟩
end
/-- what a lambda's reading becomes: its value in a list, or how BadFraming is told -/
def TOut (C : Addr) : (XK → Hp → VK → Prop) → Hp → VK → Prop := fun tl H Q => ∀ p0, H p0 = none → ∀ R : VK, (∀ v H', (∀ p, H' p = none → Q (.ref p) (upd H' p (.lst [v]))) → R v H') →
  tl (fun cls d H' => cls = .ref C ∧ ∃ (dx : Addr) (r : V), d = some dx ∧ H' dx = some (.xd [("number", r)]) ∧ ∀ a H2 p, H' a = none → Same (upd H' a (exh (.ref C) (some dx) a)) H2 → H2 p = some (.tup [.str "framing", r]) → Q (.ref p) H2) (upd H p0 (.tup [.non, .non])) R
theorem scOutcome : FnScope ["deed", "caught", "found", "e"] ["deed"] (defScope sOutcome) := ⟨rfl, rfl, rfl, by decide +kernel, rfl, by decide +kernel, by decide +kernel⟩
structure Ou (K : PySem.W.Frag) (mg : Str → Option Value) where
  F : Fx K mg
  f : Addr
  d : FuncData
  L : Fun K "_law_fault" "_law_fault" sFault f d
  b : Binds K d ["e"] []
  g : mg "_law_fault" = some (.ref f)
abbrev NO : List Str := ["deed", "caught", "found", "e"]
section
variable {X : Cx} {g : Addr} {cdg : Value} {q : Str}
theorem out_gives (S : Ou X.K X.mg) (hr : Room 2 X.A) : GivesTo X NO "_law_outcome" (defScope sOutcome) g cdg (defBody sOutcome) "deed" q (TOut S.F.O.C) := by
  intro f c' s H Q tl act hc h
  have GF : FnOk X.prog X.w X.K X.mg X.base CX0 1 S.f S.d ["e"] (spFault S.F.O.C) := ok_fault S.L S.F
  refine ⟨_, pss_cons (ps_asg (pe_tup (pa_cons pe_non (pa_cons pe_non pa_nil))) (pg_tup rfl (pgs_cons (pg_name (i := 1) scOutcome.nd rfl (Or.inl rfl)) (pgs_cons (pg_name (i := 2) scOutcome.nd rfl (Or.inl rfl)) pgs_nil))))
    (pss_cons (ps_try_keep (i := 3) (cs := S.F.cs)
        (tb := fun W D σ H => ∃ Ech : XK, (∀ cls d σ' H', Ech cls d H' → W cls d σ' H') ∧ σ[0]? = some (some (.ref f)) ∧ H c' = some (CodeO c' q) ∧ tl Ech H fun v H1 => D.nx (σ.set 2 (some v)) H1)
        rfl rfl rfl scOutcome.nd rfl rfl ?_ (by decide) (fun W pn xe tk _ => ?_) (fun a oe cls d pn _ _ => pss_one (ps_set (i := 1) scOutcome.nd rfl (Or.inl rfl) (pv 3))))
    (pss_one (ps_ret (pe_ifExp (pt_cmpR op_isN (pv 1) pe_non (nomark _)) (pe_lst (pa_cons (pv 2) pa_nil)) (pe_call GF (hr.deeper _) (by rfl) S.g S.L.kp S.b .nil pass0 (pa_cons (pv 1) pa_nil)))))), ?_⟩
  · unfold Fx.cs
    exact .cons ⟨by rfl, by decide, .inl S.F.c0.m⟩ (.cons ⟨by rfl, by decide, .inl S.F.c1.m⟩ (.cons ⟨by rfl, by decide, .inl S.F.c2.m⟩ (.cons ⟨by rfl, by decide, .inl S.F.c3.m⟩
      (.cons ⟨by rfl, by decide, .inl S.F.c4.m⟩ (.cons ⟨by rfl, by decide, .inl S.F.c5.m⟩ (.cons ⟨by rfl, by decide, .inl S.F.c6.m⟩ (.cons ⟨by rfl, by decide, .inl S.F.c7.m⟩ .nil)))))))
  · refine ⟨fun pins s' σ H' D I h' => ?_⟩
    obtain ⟨Ech, hW, h1, h2, h3⟩ := h'
    exact (pss_one (ps_set (i := 2) scOutcome.nd rfl (Or.inl rfl) (act W pn xe Ech _ _ tk hW))).run pins s' σ H' D I ⟨h1, h2, h3⟩
  · refine ⟨(by decide), fun p0 hp0 => ?_⟩
    have u0 := same_upd (o := HO.tup [V.non, V.non]) hp0
    refine ⟨p0, _, rfl, SqT.of upd_same, rfl, _, _, rfl, _, _, rfl, rfl, ?_⟩
    refine ⟨fun cls d H' => cls = .ref S.F.O.C ∧ ∃ (dx : Addr) (r : V), d = some dx ∧ H' dx = some (.xd [("number", r)]) ∧ ∀ a H2 p, H' a = none → Same (upd H' a (exh (.ref S.F.O.C) (some dx) a)) H2 → H2 p = some (.tup [.str "framing", r]) → Q (.ref p) H2, fun cls d σ' H' hE hlen => ?_, rfl, u0 _ _ hc, ?_⟩
    · obtain ⟨rfl, dx, r, rfl, hdx, hq⟩ := hE
      have len4 : σ'.length = 4 := hlen
      refine ⟨S.F.any, fun a na => ?_⟩
      match σ', len4 with
      | [w0, w1, w2, w3], _ =>
        refine ⟨_, rfl, ?_⟩
        refine ⟨_, rfl, rfl, _, rfl, iteF' (by simp) ?_⟩
        exact ⟨_, rfl, a, dx, r, rfl, upd_same, by rw [upd_ne (ne_of_none hdx na)]; exact hdx, fun H2 p s2 e2 => hq a H2 p na s2 e2⟩
    · refine h p0 hp0 _ fun v H1 hq => ?_
      exact ⟨_, rfl, rfl, _, rfl, iteT' (by simp) ⟨_, rfl, (by show 1 ≤ sizeLine; decide), fun p hp => hq p hp⟩⟩
end
end K34

set_option Elab.async false
set_option linter.all false
set_option maxRecDepth 100000
set_option maxHeartbeats 4000000
/-! A lambda whose parameter has a number as its default, handed to a def that calls it with nothing. -/
namespace LamX
open PySem PySem.Spec PyProof.Rows L2
section
variable {X : Cx} {pins : List (Addr × Obj)} {σ : L2.St} {H HZ : Hp} {s s1 : Shared}
theorem lam_make3 {T : List (Addr × Str)} {c P : Addr} {params : Arguments} {body : Expr} {scope : Scope} {pos dp : Pos} {n : Int} {j : Nat} {E : Value → Shared → Prop} {Q : Value → Shared → Prop} (I : Inv X pins σ H s) (TB : TabB X.base X.mg c P) (hcode : X.env.code = .ref c)
    (hm : (P, X.env.qual ++ "<lambda>") ∈ T) (hu : ∀ p ∈ T, p.1 = P → p.2 = X.env.qual ++ "<lambda>") (hT : Tabs T H) (hdef : params.defaults = [.Constant (.int n) j dp]) (hk0 : params.kw_defaults = []) (hfree : ∀ y ∈ scope.names, y.2 = .free → ∃ c, X.env.cells.lookup y.1 = some c)
    (h : ∀ (f c' T0 : Addr) (dv doc pm ctv : Value) (H1 : Hp) (s' : Shared), Inv X pins σ H1 s' → ExtN H H1 → Tabs T H1 → s'.heap.get? T0 = some (PySem.W.kdv_tup [dv]) → H1 T0 = none → T0 ∉ frs X.stack →
      s'.heap.get? f = some (PySem.W.kdv_obj "<lambda>" (X.env.qual ++ "<lambda>") params (.expr body) scope (cloFrom X.env.cells scope.names []) (.ref T0) doc pm c' ctv) → H1 f = none → f ∉ frs X.stack → H1 c' = some (CodeO c' (X.env.qual ++ "<lambda>")) → Q (.ref f) s') :
    wpAny (model X.prog X.w) X.A (eval (.Lambda params body scope pos) X.env) Q E s := by
  obtain ⟨ps, hP, ht, ha⟩ := hT _ hm
  refine PySem.W.kdv_lam (by rw [hdef]; rfl) hk0 ?_
  rw [hdef]
  refine PySem.W.kdv_all1 (wpAny_Constant_int ?_)
  refine PySem.W.kdv_all0 ?_
  rw [makeFunction_eq]
  simp only [List.zip_nil_right, List.filterMap_nil, List.isEmpty_nil, if_true, pure_bind, List.isEmpty_cons, Bool.false_eq_true, if_false]
  refine wpAny_bind (wpAny_newTextTuple ?_)
  have I0 := I.tok (s.toks + 1)
  have nofr : ∀ f, s.heap.objs.size ≤ f → f ∉ frs X.stack := fun f hf z => by
    rcases List.mem_cons.mp (I.stkSub _ z) with e | e
    · have h1 := I.lt
      rw [← e] at h1
      exact Nat.lt_irrefl _ (Nat.lt_of_lt_of_le h1 hf)
    · exact I.nofs hf e
  have nT : H s.heap.objs.size = none := I.hok.fresh (Nat.le_refl _)
  have fT := nofr s.heap.objs.size (Nat.le_refl _)
  have I2 := I0.kept (h' := s.heap.push (PySem.W.kdv_tup [.int n s.toks])) (t' := s.toks + 1) fun b o e => Heap.get?_push_of_some _ e
  have sz2 : s.heap.objs.size < (s.heap.push (PySem.W.kdv_tup [.int n s.toks])).objs.size := by rw [Heap.size_push]; omega
  have g2 : (s.heap.push (PySem.W.kdv_tup [.int n s.toks])).get? s.heap.objs.size = some (PySem.W.kdv_tup [.int n s.toks]) := Heap.get?_push_size _ rfl
  have nP : s.heap.objs.size ≠ P := Nat.ne_of_gt (Heap.lt_size (I.hok P _ hP : s.heap.get? P = some { cls := .none, data := .fields ps }))
  have nofr2 : ∀ f, (s.heap.push (PySem.W.kdv_tup [.int n s.toks])).objs.size ≤ f → f ∉ frs X.stack := fun f hf => nofr f (by omega)
  generalize hT0 : s.heap.objs.size = T0 at nT fT sz2 g2 nP ⊢
  generalize (s.heap.push (PySem.W.kdv_tup [.int n s.toks])) = h2 at I2 sz2 g2 nofr2 ⊢
  generalize (Value.int n s.toks) = dv at g2 ⊢
  have bP : h2.BuiltinsAt X.mg P := TB.bm.keeps I2.bk
  have hP' : h2.get? P = some { cls := .none, data := .fields ps } := I2.hok P _ hP
  cases hc : codeAmong pos ps.toList with
  | none =>
    refine PySem.W.kdv_makeTail (mg := X.mg) (c := c) (P := P) (ps := ps) (closure_ok hfree) I.ok.glob (I.mod.glob.keeps I2.bk) hcode (TB.code.keeps I2.bk) hP' ht hc TB.gP bP fun c' ctv doc h' tk hx hge hlt hrec htb => ?_
    obtain ⟨c2, oc, vs, t, e2, hoc, hd, hv⟩ := hrec
    cases e2
    have hge' : h2.objs.size ≤ c' := hge
    have hsz : h2.objs.size ≤ h'.objs.size := Nat.le_trans hge (Nat.le_of_lt hlt)
    have nC : H c' = none := I2.hok.fresh hge
    have I1 := inv_table (t' := tk) (more := #[rawInt pos.line, rawInt pos.col, .ref c']) (h' := h'.push (PySem.W.kdv_obj "<lambda>" (X.env.qual ++ "<lambda>") params (.expr body) scope (cloFrom X.env.cells scope.names []) (.ref T0) doc ((X.mg "__name__").getD .none) c' ctv)) I2 hP
      (fun b o hb e => Heap.get?_push_of_some _ (hx b o hb e)) (Heap.get?_push_of_some _ htb) hge ⟨oc, vs, t, Heap.get?_push_of_some _ hoc, hd, hv⟩
    have hE : ExtN H (upd (upd H P (.tbl (ps ++ #[rawInt pos.line, rawInt pos.col, .ref c']))) c' (CodeO c' (X.env.qual ++ "<lambda>"))) := fun b o e n => by
      rw [upd_ne (ne_of_none e nC), upd_ne (fun z => n ps (Option.some.inj (e.symm.trans (by rw [z]; exact hP))))]
      exact e
    have eL : (ps ++ #[rawInt pos.line, rawInt pos.col, .ref c']).toList = ps.toList ++ [rawInt pos.line, rawInt pos.col, .ref c'] := by simp
    refine h h'.objs.size c' T0 dv doc ((X.mg "__name__").getD .none) ctv _ _ I1 hE (fun p hp => ?_) (Heap.get?_push_of_some _ (hx _ _ nP g2)) ?_ fT (Heap.get?_push_size _ rfl) ?_ (nofr2 _ hsz) upd_same
    · by_cases hb : p.1 = P
      · rw [hu p hp hb, hb]
        refine ⟨_, by rw [upd_ne (ne_of_none hP nC), upd_same], by rw [eL]; exact PySem.TriplesOk_snoc _ _ _ _ ht, fun p' cv hcv => ?_⟩
        rw [eL] at hcv
        rcases among_app _ ht hcv with z | z
        · obtain ⟨c0, e1, e2⟩ := ha p' cv z
          exact ⟨c0, e1, hE _ _ e2 codeO_ne⟩
        · exact ⟨c', z, upd_same⟩
      · obtain ⟨ps', a1, a2, a3⟩ := hT p hp
        refine ⟨ps', by rw [upd_ne (ne_of_none a1 nC), upd_ne hb]; exact a1, a2, fun p' cv hcv => ?_⟩
        obtain ⟨c0, e1, e2⟩ := a3 p' cv hcv
        exact ⟨c0, e1, hE _ _ e2 codeO_ne⟩
    · have nc : T0 ≠ c' := Nat.ne_of_lt (Nat.lt_of_lt_of_le sz2 hge')
      rw [upd_ne nc, upd_ne nP]
      exact nT
    · have n1 : h'.objs.size ≠ c' := Nat.ne_of_gt hlt
      have n2 : h'.objs.size ≠ P := Nat.ne_of_gt (Nat.lt_of_lt_of_le (Heap.lt_size hP') hsz)
      rw [upd_ne n1, upd_ne n2]
      exact I2.hok.fresh hsz
  | some cv =>
    obtain ⟨c', e, hco⟩ := ha pos cv hc
    subst e
    refine PySem.W.kdv_makeTailHit (mg := X.mg) (c := c) (P := P) (ps := ps) (closure_ok hfree) I.ok.glob (I.mod.glob.keeps I2.bk) hcode (TB.code.keeps I2.bk) hP' ht hc bP fun ctv doc h' tk hx hsz => ?_
    have I1 := I2.kept (h' := h'.push (PySem.W.kdv_obj "<lambda>" (X.env.qual ++ "<lambda>") params (.expr body) scope (cloFrom X.env.cells scope.names []) (.ref T0) doc ((X.mg "__name__").getD .none) c' ctv)) (t' := tk) fun b o e => Heap.get?_push_of_some _ (hx b o e)
    exact h h'.objs.size c' T0 dv doc ((X.mg "__name__").getD .none) ctv H _ I1 (ExtN.refl H) hT (Heap.get?_push_of_some _ (hx _ _ g2)) nT fT (Heap.get?_push_size _ rfl) (I2.hok.fresh hsz) (nofr2 _ hsz) hco
/-- one parameter with a default, that is no name of the maker; no other name of its own -/
structure LamD (sc scope : Scope) (N : List Str) : Prop where
  kind : scope.kind = .function
  co : scope.isCoroutine = false
  gen : scope.isGenerator = false
  own : ∀ y ∈ scope.names, y.2 ≠ .cell ∧ (y.2 = .local → y.1 ∉ N)
  free : ∀ y ∈ scope.names, y.2 = .free → sc.names.lookup y.1 = some .cell ∨ sc.names.lookup y.1 = some .free
def lamDB (sc scope : Scope) (N : List Str) : Bool :=
  decide (scope.kind = .function) && !scope.isCoroutine && !scope.isGenerator && scope.names.all fun y => !decide (y.2 = .cell) && (!decide (y.2 = .local) || !decide (y.1 ∈ N)) && (!decide (y.2 = .free) || decide (sc.names.lookup y.1 = some .cell) || decide (sc.names.lookup y.1 = some .free))
theorem lamD_by {sc scope : Scope} {N : List Str} (h : lamDB sc scope N = true) : LamD sc scope N := by
  unfold lamDB at h
  simp only [Bool.and_eq_true, Bool.or_eq_true, Bool.not_eq_true', decide_eq_true_eq, decide_eq_false_iff_not, List.all_eq_true] at h
  obtain ⟨⟨⟨h1, h2⟩, h3⟩, h4⟩ := h
  refine ⟨h1, h2, h3, fun y hy => ⟨(h4 y hy).1.1, fun e => ?_⟩, fun y hy e => ?_⟩
  · rcases (h4 y hy).1.2 with z | z
    · exact absurd e z
    · exact z
  · rcases (h4 y hy).2 with (z | z) | z
    · exact absurd e z
    · exact .inl z
    · exact .inr z
theorem LamD.has {X : Cx} {scope : Scope} {N : List Str} (L : LamD X.env.scope scope N) (ok : X.Ok) : ∀ y ∈ scope.names, y.2 = .free → ∃ c, X.env.cells.lookup y.1 = some c := fun y hy e => by
  rcases L.free y hy e with k | k
  · exact ok.has _ (.inl k)
  · exact ok.has _ (.inr k)
theorem lam_start3 {A : Around} {outer : List Env} {E : XK} {scope : Scope} {f c' : Addr} {h₁ : Heap} {tk : Nat} {mm : Str → Option Value} (I : Inv X pins σ H s) (L : LamD X.env.scope scope X.N) (e0 : Env0 X.prog X.w X.K X.mg X.base A outer s1 HZ) (hd : A.handled = none)
    (un : Un (frs X.stack) [] H HZ s.heap s1.heap) (hns : h₁.Ns s1.heap.objs.size mm) (kp : ∀ b o, s1.heap.get? b = some o → h₁.get? b = some o) :
    Inv (lamCx X A outer s1 HZ E scope f c') [] σ HZ { s1 with heap := h₁, toks := tk } := by
  have hfree := L.has I.ok
  have cm : ∀ {y c}, (cloFrom X.env.cells scope.names []).lookup y = some c → X.env.cells.lookup y = some c := fun {y c} e => by
    rcases cloFrom_mem (PySem.mem_of_lookup e) with hm | ⟨h1, h2⟩
    · cases hm
    · obtain ⟨c1, hc⟩ := hfree _ h1 rfl
      have hc : X.env.cells.lookup y = some c1 := hc
      have e2 : c = c1 := by
        rw [h2, hc] <;> rfl
      rw [e2]
      exact hc
  have look : ∀ {y}, scope.names.lookup y = some .free → ∃ c, (cloFrom X.env.cells scope.names []).lookup y = some c := fun {y} hl => by
    have hy : (y, NameKind.free) ∈ scope.names := PySem.mem_of_lookup hl
    exact mem_lookup (cloFrom_has (cells := X.env.cells) (acc := []) hy)
  have cellK : ∀ {c : Addr} {v : Option Value}, H c = none → s.heap.IsCell c v → h₁.IsCell c v := fun {c v} n ⟨o, ho, hd⟩ => by
    obtain ⟨sl, q⟩ := un.any ho n (by simp)
    exact ⟨_, kp _ _ q, hd⟩
  have noA : ∀ b : Addr, b ∉ (lamCx X A outer s1 HZ E scope f c').ex := fun b z => absurd (show b ∈ ([] : List Addr) from z) (by simp)
  refine ⟨⟨e0.mod, L.kind, rfl, rfl, Nat.le_refl _, fun y z c e1 e2 => I.ok.inj y z c (cm e1) (cm e2), fun y hy => ?_, fun y c z _ => ?_, fun _ => hd, Around.frames_deeper e0.frames, .inr ⟨rfl, rfl⟩, fun b z => absurd z (noA b), e0.bs, e0.bsz, fun b _ _ => noA b,
      fun b z => absurd z (noA b), e0.funs, e0.frf⟩,
    rfl, e0.bare, Un.kept kp, ⟨_, hns, fun i y v e1 e2 e3 => ?_⟩, fun y c e => ?_, e0.hok.fresh (Nat.le_refl _), fun y c e => ?_, fun q hq => absurd (show q ∈ ([] : List (Addr × Obj)) ++ [] from hq) (by simp), e0.hok.kept kp, I.len⟩
  · have hy : scope.names.lookup y = some .cell ∨ scope.names.lookup y = some .free := hy
    rcases hy with hy | hy
    · exact absurd rfl (L.own _ (PySem.mem_of_lookup hy)).1
    · exact look hy
  · have z : false = true := z
    cases z
  · have e3 : Vis scope y := e3
    have yN : y ∈ X.N := List.mem_of_getElem? e1
    rcases e3 with k | k | k
    · exact absurd yN ((L.own _ (PySem.mem_of_lookup k)).2 rfl)
    · exact absurd rfl (L.own _ (PySem.mem_of_lookup k)).1
    · obtain ⟨m, hn, hl⟩ := I.loc
      have hvis : Vis X.env.scope y := (L.free _ (PySem.mem_of_lookup k) rfl).elim (fun k => .inr (.inl k)) (fun k => .inr (.inr k))
      obtain ⟨w', r, q⟩ := hl i y v e1 e2 hvis
      obtain ⟨c2, h2⟩ := look k
      refine ⟨w', r, .inr ⟨.inr k, c2, h2, ?_⟩⟩
      have c1 := cm h2
      rcases q with ⟨k', _⟩ | ⟨_, c3, e', z⟩
      · have k' : X.env.scope.names.lookup y = some .local := k'
        rcases L.free _ (PySem.mem_of_lookup k) rfl with k2 | k2 <;> rw [show X.env.scope.names.lookup y = _ from k2] at k' <;> cases k'
      · rw [c1] at e'
        cases e'
        exact cellK (I.freeC y _ c1) z
  · obtain ⟨w', z⟩ := I.cell y c (cm e)
    exact ⟨w', cellK (I.freeC y c (cm e)) z⟩
  · obtain ⟨v, o, ho, hd⟩ := I.cell y c (cm e)
    exact un.free c o ho (I.freeC y c (cm e)) (by simp)
/-- what binds nothing to the parameters -/
def BindsD (params : Arguments) (body : Expr) (scope : Scope) (x : Str) : Prop := ∀ (s : Shared) (q : Str) (cl : List (Str × Addr)) (T0 : Addr) (dv doc pm cv ctv : Value), s.heap.get? T0 = some (PySem.W.kdv_tup [dv]) →
  BindsTo s (PySem.W.kdv_fn "<lambda>" q params (.expr body) scope cl (.ref T0) doc pm cv ctv) ⟨[], []⟩ [(x, dv)]
theorem pe_act3 {CXg : CXT} {Eg : XK} {Ng : List Str} {qg : Str} {sg : Scope} {g f c' T0 : Addr} {cdg pm ctv dv doc : Value} {params : Arguments} {body : Expr} {scope : Scope} {k i : Nat} {a x : Str} {pn : List (Addr × Obj)} {xe : Value → Shared → Prop} {W : WX} {E : XK} {tb : TE} {p1 p2 : Pos}
    (I : Inv X pins σ H s) (L : LamD X.env.scope scope X.N) (hT : s.heap.get? T0 = some (PySem.W.kdv_tup [dv])) (hTn : H T0 = none) (hTf : T0 ∉ frs X.stack)
    (hf : s.heap.get? f = some (PySem.W.kdv_obj "<lambda>" (X.env.qual ++ "<lambda>") params (.expr body) scope (cloFrom X.env.cells scope.names []) (.ref T0) doc pm c' ctv)) (hfn : H f = none) (hfr : f ∉ frs X.stack)
    (hbind : BindsD params body scope x) (hx : scope.names.lookup x = some .local)
    (tk : Takes ((cxOf CXg X.prog X.w X.K X.mg X.base Ng qg sg g cdg X.A X.stack s H Eg).tr pn xe) W) (hW : ∀ cls d σ' H', E cls d H' → W cls d σ' H') (hr : Room (k + 1) (X.A.deeper (envOfC qg sg s.heap.objs.size g cdg)))
    (hbody : ∀ (A : Around) (outer : List Env) (s : Shared) (H : Hp), Room k (A.deeper (lamEnv X scope s.heap.objs.size f c')) → PE (lamCx X A outer s H E scope f c') body tb)
    (hN : Ng[i]? = some a) (hv : Vis sg a) (hd : (a == ("__debug__" : Str)) = false := by decide) (hcd : (a == ("__classdict__" : Str)) = false := by decide) :
    PE ((cxOf CXg X.prog X.w X.K X.mg X.base Ng qg sg g cdg X.A X.stack s H Eg).tr pn xe) (.Call (.Name a p1) [] [] p2)
      (fun σZ HZ Q => σZ[i]? = some (some (.ref f)) ∧ HZ c' = some (CodeO c' (X.env.qual ++ "<lambda>")) ∧ tb σ HZ Q) := by
  refine ⟨fun pinsZ sZ σZ HZ Q IZ h => ?_⟩
  obtain ⟨hs, hc, ht⟩ := h
  refine wpAny_Call_Name_kw (thn ((pe_var (pos := p1) (i := i) hN hv hd hcd).run pinsZ sZ σZ HZ (fun v H1 => v = .ref f ∧ H1 = HZ) IZ ⟨.ref f, hs, rfl, rfl⟩) fun u s1 ⟨v, H1, I1, r1, q1⟩ => ?_)
  obtain ⟨ev, eH⟩ := q1
  subst ev
  rw [eH] at I1
  obtain rfl : u = Value.ref f := r1
  have of1 : s1.heap.get? f = some (PySem.W.kdv_obj "<lambda>" (X.env.qual ++ "<lambda>") params (.expr body) scope (cloFrom X.env.cells scope.names []) (.ref T0) doc pm c' ctv) := I1.base.keep f _ hf hfn hfr (fun z => nomatch (show f ∈ ([] : List Addr) from z))
  have oT1 : s1.heap.get? T0 = some (PySem.W.kdv_tup [dv]) := I1.base.keep T0 _ hT hTn hTf (fun z => nomatch (show T0 ∈ ([] : List Addr) from z))
  refine PySem.W.callWith_F0 ⟨_, _, _, _, of1⟩ ?_
  have un : Un (frs X.stack) [] H HZ s.heap s1.heap := I1.base
  obtain ⟨⟨oc, vs, t, hoc, hdc, hvc⟩, _, _⟩ := I1.hok c' _ hc
  have rc : codeAny (model X.prog X.w) (X.A.deeper (envOfC qg sg s.heap.objs.size g cdg)) (.call (.ref f) ⟨[], []⟩) (CR (L2.CX X.prog X.w) (envOfC qg sg s.heap.objs.size g cdg :: X.stack) X.prog X.w HZ s1 Q E) s1 := by
    refine PySem.W.kla_callFunE hr.depth of1 rfl L.co L.gen rfl ⟨c', oc, vs, t, rfl, hoc, hdc, hvc⟩ ?_
    refine hbind s1 _ _ T0 dv doc pm (.ref c') ctv oT1 _ _ _ _ ?_
    refine wpAny_newFunctionEnv (fun y hy => (L.own y hy).1) (fun y hy => ?_) (fun h₁ hns hsb => ⟨I1.nolimit.fresh _ hsb, ?_⟩) L.kind
    · obtain rfl := List.mem_singleton.mp hy
      exact hx
    show codeAny _ _ (.expr body (lamEnv X scope s1.heap.objs.size f c')) _ _
    have kp : ∀ b o, s1.heap.get? b = some o → h₁.get? b = some o := fun b o e => hsb.extBut b o (Nat.ne_of_lt (Heap.lt_size e)) (Heap.get?_push_of_some _ e)
    have J : Inv (lamCx X (X.A.deeper (envOfC qg sg s.heap.objs.size g cdg)) (envOfC qg sg s.heap.objs.size g cdg :: X.stack) s1 HZ E scope f c') [] σ HZ { s1 with heap := h₁, toks := s1.toks + ([(x, dv)] : List (Str × Value)).length } :=
      lam_start3 I L I1.env0 hr.hd un hns kp
    refine PySem.W.kla_codeExpr (wpAny_mono ((hbody _ _ s1 HZ (hr.deeper _)).run [] _ _ HZ Q J ht) (fun v s' hq => ?_) fun e s' hq => hq)
    obtain ⟨w', H', J', rv, q⟩ := hq
    exact ⟨w', H', J'.os, J'.bare, J'.base, J'.hok, rv, q⟩
  have hx : Passes (L2.CX X.prog X.w) ((cxOf CXg X.prog X.w X.K X.mg X.base Ng qg sg g cdg X.A X.stack s H Eg).tr pn xe) E := passes_call tk hW
  refine wpAny_call (codeAny_mono rc fun r s' hq => ?_)
  cases r with
  | error e => exact hx pinsZ σZ HZ s1 e s' I1 hq
  | ok fl =>
    cases fl with
    | ret u => exact I1.after hq
    | next => exact False.elim hq
    | brk => exact False.elim hq
    | cont => exact False.elim hq
/-- x(lambda y=n: body) -/
theorem pe_lamcall3 {T : List (Addr × Str)} {TT : (XK → Hp → VK → Prop) → Hp → VK → Prop} {x a y : Str} {g c P : Addr} {k : Nat} {pg : Arguments} {bg : List Stmt} {sg : Scope} {dV kV doc pm cdv ct oc : Value} {an od : Option Addr} {osl : Array (Option Value)} {Ng : List Str}
    {params : Arguments} {body : Expr} {scope : Scope} {t : XK → TE} {p lpos pos dp : Pos} {n : Int} {j : Nat} (hg : Gl X x) (hm : X.mg x = some (.ref g)) (hk : PySem.W.keepIn X.K (.ref g) = true)
    (lk : X.K.lookup g = some ⟨oc, od, .func (PySem.W.fnOf x x pg bg sg dV kV doc pm an cdv ct), osl⟩) (hcg : PySem.W.codeIn X.K cdv x = true) (hb : L2.Binds X.K (PySem.W.fnOf x x pg bg sg dV kV doc pm an cdv ct) [a] []) (Sg : FnScope Ng [a] sg) (hNg : Ng[0]? = some a) (hva : Vis sg a)
    (hG : GivesTo X Ng x sg g cdv bg a (X.env.qual ++ "<lambda>") TT)
    (TB : TabB X.base X.mg c P) (hcode : X.env.code = .ref c) (hmT : (P, X.env.qual ++ "<lambda>") ∈ T) (hu : ∀ p ∈ T, p.1 = P → p.2 = X.env.qual ++ "<lambda>") (hr : Room (k + 2) X.A) (L : LamD X.env.scope scope X.N) (hdef : params.defaults = [.Constant (.int n) j dp]) (hk0 : params.kw_defaults = [])
    (hbind : BindsD params body scope y) (hy : scope.names.lookup y = some .local)
    (hbody : ∀ (A : Around) (outer : List Env) (s : Shared) (H : Hp) (E : XK) (f c' : Addr), Room k (A.deeper (lamEnv X scope s.heap.objs.size f c')) → PE (lamCx X A outer s H E scope f c') body (t E))
    (hdb : (x == ("__debug__" : Str)) = false := by decide) (hd : (a == ("__debug__" : Str)) = false := by decide) (hcd : (a == ("__classdict__" : Str)) = false := by decide) :
    PE X (.Call (.Name x p) [.Lambda params body scope lpos] [] pos) (tLam T TT t) := by
  refine ⟨fun pins s σ H Q I h => ?_⟩
  obtain ⟨hT, h⟩ := h
  refine wpAny_Call_Name_kw (ld_glob I hg hm ?_ hdb)
  refine PySem.W.callWith_K (h₀ := X.base) I.ok.mod.kin hk ?_ (by rfl) (by rfl)
  show wpAny _ _ (spliced ((false, eval (.Lambda params body scope lpos) X.env) :: backTo pos (starEach [] X.env))) _ _ s
  refine Calls.spliced_cons (lam_make3 I TB hcode hmT hu hT hdef hk0 (L.has I.ok) fun f c' T0 dv doc' pm' ctv H1 s' I1 eN T1 hT0 hTn hTf hf hfn hfr hco => ?_)
  refine Calls.spliced_nil ⟨I1.kIn, ?_⟩
  have rc : codeAny (model X.prog X.w) X.A (.call (.ref g) ⟨[.ref f], []⟩) (CR C8.CX0 X.stack X.prog X.w H1 s' Q C8.E0) s' := by
    refine run_ofS (N := Ng) (ps := [a]) (us := [.ref f]) (vs := [.ref f]) lk hcg Sg hr I1.env0 (hb s' [.ref f] I1.kIn rfl) (.cons rfl .nil) rfl fun hr' => ?_
    obtain ⟨t', ht', hq'⟩ := hG f c' s' H1 Q (fun E H' Q' => t E σ H' Q') (fun W pn xe E p1 p2 tk hW => pe_act3 (i := 0) I1 L hT0 hTn hTf hf hfn hfr hbind hy tk hW hr' (fun A outer s H hr2 => hbody A outer s H E f c' hr2) hNg hva hd hcd) hco (h H1 eN T1)
    exact ⟨t', ht'.nox, hq'⟩
  refine wpAny_call (codeAny_mono rc fun r s2 hq => ?_)
  cases r with
  | error e => exact (show False from hq).elim
  | ok fl =>
    cases fl with
    | ret u => exact I1.after hq
    | next => exact False.elim hq
    | brk => exact False.elim hq
    | cont => exact False.elim hq
end
end LamX

set_option Elab.async false
set_option linter.all false
set_option maxRecDepth 100000
set_option maxHeartbeats 8000000
/-! _law_refusals. -/
namespace K34
open PySem L2 L2.EV LamX PySem.Spec
abbrev sRef : Stmt := top 90
/-- all but the tables of code objects -/
def nt (H : Hp) : Hp := fun b => match H b with
  | some (.tbl _) => none
  | x => x
theorem nt_mk {H : Hp} {b : Addr} {o : HO} (e : H b = some o) (n : ∀ ps, o ≠ .tbl ps) : nt H b = some o := by
  unfold nt
  rw [e]
  cases o <;> first | rfl | exact absurd rfl (n _)
theorem nt_some {H : Hp} {b : Addr} {o : HO} (e : nt H b = some o) : H b = some o ∧ ∀ ps, o ≠ .tbl ps := by
  unfold nt at e
  cases h : H b with
  | none =>
    rw [h] at e
    cases e
  | some u =>
    rw [h] at e
    cases u <;> first | (cases e; exact ⟨rfl, fun ps z => by cases z⟩) | cases e
theorem nt_sub {H : Hp} : Same (nt H) H := fun b o e => (nt_some e).1
theorem nt_same {H H' : Hp} (s : Same H H') : Same (nt H) (nt H') := fun b o e => nt_mk (s _ _ (nt_some e).1) (nt_some e).2
theorem nt_ext {H H' : Hp} (s : ExtN H H') : Same (nt H) (nt H') := fun b o e => nt_mk (s _ _ (nt_some e).1 (nt_some e).2) (nt_some e).2
theorem ext_same {H H' : Hp} (s : Same H H') : ExtN H H' := fun b o e _ => s b o e
theorem fr_nt {H : Hp} {f : Addr} {fr : List T3} (h : FrA H f fr) : FrA (nt H) f fr := by
  obtain ⟨ts, e, l, c⟩ := h
  exact ⟨ts, nt_mk e (fun ps z => by cases z), l, fun i t x h1 h2 => nt_mk (c i t x h1 h2) (fun ps z => by cases z)⟩
theorem mat_nt {H : Hp} {m c l : Addr} {k : Int} (M : MAt H m c l k) : MAt (nt H) m c l k := by
  obtain ⟨h1, ⟨cs, h2, h3⟩, ⟨ls, h4, h5⟩, h6, h7, h8⟩ := M
  exact ⟨nt_mk h1 (fun ps z => by cases z), ⟨cs, nt_mk h2 (fun ps z => by cases z), h3⟩, ⟨ls, nt_mk h4 (fun ps z => by cases z), h5⟩, h6, h7, h8⟩
mutual
theorem da_nt {H : Hp} : ∀ (d : PyData) (v : V), Da H v d → Da (nt H) v d
  | .none, _, h => by cases h; exact .non
  | .bool b, _, h => by cases h; exact .bl b
  | .int i, _, h => by cases h; exact .int i
  | .str x, _, h => by cases h; exact .str x
  | .list ds, _, h => by
    cases h with
    | lst e ha => exact .lst (nt_mk e (fun ps z => by cases z)) (das_nt ds _ ha)
  | .tuple ds, _, h => by
    cases h with
    | tup e ha => exact .tup (nt_mk e (fun ps z => by cases z)) (das_nt ds _ ha)
  | .dict _, _, h => by cases h
theorem das_nt {H : Hp} : ∀ (ds : List PyData) (vs : List V), DaAll H vs ds → DaAll (nt H) vs ds
  | [], _, h => by cases h; exact .nil
  | d :: ds, _, h => by
    cases h with
    | cons h1 h2 => exact .cons (da_nt d _ h1) (das_nt ds _ h2)
end

theorem jf_nt {H : Hp} {f : Addr} (h : JF H f) : JF (nt H) f := by
  obtain ⟨fr, last, S, k, fa, r⟩ := h
  exact ⟨fr, last, S, k, fr_nt fa, r⟩
theorem bad_nt {H : Hp} {v r : V} (h : Bad H v r) : Bad (nt H) v r := by
  rcases h with ⟨d, da, c, e⟩ | ⟨a, e1, e2, e3⟩ | ⟨a, xs, ds, e1, e2, e3, e4, e5, h⟩
  · exact .inl ⟨d, da_nt _ _ da, c, e⟩
  · exact .inr (.inl ⟨a, e1, nt_mk e2 (fun ps z => by cases z), e3⟩)
  · refine .inr (.inr ⟨a, xs, ds, e1, nt_mk e2 (fun ps z => by cases z), das_nt _ _ e3, e4, e5, ?_⟩)
    rcases h with h | h | ⟨h1, h2, h3, h4⟩
    · exact .inl h
    · exact .inr (.inl h)
    · exact .inr (.inr ⟨h1, h2, jf_nt h3, h4⟩)
abbrev lamQ : Str := (("_law_refusals" : Str) ++ (".<locals>." : Str)) ++ ("<lambda>" : Str)
/-- a function's outcome at what is no framing -/
theorem rd_out1 {T : List (Addr × Str)} {C : Addr} {σ : L2.St} {H : Hp} {Q : VK} {v r : V} (h0 : σ[0]? = some (some v)) (tb : Tabs T H) (bad : Bad (nt H) v r) (post : ∀ H3 p, ExtN H H3 → Tabs T H3 → H3 p = some (.tup [.str "framing", r]) → Q (.ref p) H3) :
    tLam T (TOut C) (fun E => tCallS (spFx C 1) (fun σ => WE (fun cls d _ H => E cls d H) σ) (tCons (tVar 0) (tCons (tC .non) tNil))) σ H Q := by
  refine ⟨tb, fun H1 ext tb1 p0 hp0 R hR => ?_⟩
  have u0 := same_upd (o := HO.tup [V.non, V.non]) hp0
  have s1 := (nt_ext ext).trans (nt_sub.trans u0)
  refine ⟨_, h0, v, [.non], r, rfl, rfl, bad.same s1, fun H2 dx s2 e2 => ?_⟩
  refine ⟨rfl, dx, r, rfl, e2, fun a H3 p na s3 e3 => post H3 p (ext.trans (ext_same (u0.trans (s2.trans ((same_upd na).trans s3))))) (tb1.ext (u0.trans (s2.trans ((same_upd na).trans s3)))) e3⟩
theorem rd_out2 {T : List (Addr × Str)} {C : Addr} {σ : L2.St} {H : Hp} {Q : VK} {v r : V} (h0 : σ[0]? = some (some v)) (tb : Tabs T H) (bad : Bad (nt H) v r) (post : ∀ H3 p, ExtN H H3 → Tabs T H3 → H3 p = some (.tup [.str "framing", r]) → Q (.ref p) H3) :
    tLam T (TOut C) (fun E => tCallS (spFx C 2) (fun σ => WE (fun cls d _ H => E cls d H) σ) (tCons (tVar 0) (tCons (tC .non) (tCons (tC .non) tNil)))) σ H Q := by
  refine ⟨tb, fun H1 ext tb1 p0 hp0 R hR => ?_⟩
  have u0 := same_upd (o := HO.tup [V.non, V.non]) hp0
  have s1 := (nt_ext ext).trans (nt_sub.trans u0)
  refine ⟨_, h0, v, [.non, .non], r, rfl, rfl, bad.same s1, fun H2 dx s2 e2 => ?_⟩
  refine ⟨rfl, dx, r, rfl, e2, fun a H3 p na s3 e3 => post H3 p (ext.trans (ext_same (u0.trans (s2.trans ((same_upd na).trans s3))))) (tb1.ext (u0.trans (s2.trans ((same_upd na).trans s3)))) e3⟩
/-- what is told so far -/
structure Tl (T : List (Addr × Str)) (H0 H : Hp) (L : Addr) (ps : List Addr) (r : V) : Prop where
  s : Same (nt H0) (nt H)
  tb : Tabs T H
  hL : H L = some (.lst (ps.map V.ref))
  nL : nt H0 L = none
  all : ∀ p ∈ ps, H p = some (.tup [.str "framing", r])
theorem ext_tup {H H' : Hp} {p : Addr} {xs : List V} (e : ExtN H H') (h : H p = some (.tup xs)) : H' p = some (.tup xs) := e _ _ h (fun ps z => by cases z)
theorem ext_lst {H H' : Hp} {p : Addr} {xs : List V} (e : ExtN H H') (h : H p = some (.lst xs)) : H' p = some (.lst xs) := e _ _ h (fun ps z => by cases z)
theorem tabs_lst {T : List (Addr × Str)} {H : Hp} {L : Addr} {xs ys : List V} (t : Tabs T H) (e : H L = some (.lst xs)) : Tabs T (upd H L (.lst ys)) := fun p hp => by
  obtain ⟨ps, h1, h2, h3⟩ := t p hp
  refine ⟨ps, by rw [upd_ne (ne_of h1 e (fun z => by cases z))]; exact h1, h2, fun pos cv q => ?_⟩
  obtain ⟨c', e1, e2⟩ := h3 pos cv q
  exact ⟨c', e1, by rw [upd_ne (ne_of e2 e (fun z => by unfold CodeO at z; cases z))]; exact e2⟩
theorem Tl.next {T : List (Addr × Str)} {H0 H H3 : Hp} {L p : Addr} {ps : List Addr} {r : V} (t : Tl T H0 H L ps r) (e : ExtN H H3) (tb : Tabs T H3) (hp : H3 p = some (.tup [.str "framing", r])) : Tl T H0 (upd H3 L (.lst (ps.map V.ref ++ [V.ref p]))) L (ps ++ [p]) r := by
  have hL := ext_lst e t.hL
  refine ⟨fun b o z => ?_, tabs_lst tb hL, by rw [List.map_append]; exact upd_same, t.nL, fun q hq => ?_⟩
  · have z1 := nt_ext e _ _ (t.s _ _ z)
    obtain ⟨z2, z3⟩ := nt_some z1
    have nb : b ≠ L := fun k => by
      rw [k, t.nL] at z
      cases z
    exact nt_mk (by rw [upd_ne nb]; exact z2) z3
  · have hq' : H3 q = some (.tup [.str "framing", r]) := by
      rcases List.mem_append.mp hq with h | h
      · exact ext_tup e (t.all q h)
      · rw [List.mem_singleton.mp h]
        exact hp
    rw [upd_ne (ne_of hq' hL (fun z => by cases z))]
    exact hq'
def spRef (T : Addr) : Sp := fun vs H Q _ => ∃ (v r : V), vs = [v] ∧ Bad H v r ∧ Tabs [((T, lamQ) : Addr × Str)] H ∧ ∀ H' L ps, Tl [((T, lamQ) : Addr × Str)] H H' L ps r → ps.length = 18 → Q (.ref L) H'
/-- what the law wants of the top -/
structure Rf (K : PySem.W.Frag) (mg : Str → Option Value) where
  S : Cs K mg
  U : Ou K mg
  eO : S.Z.B = U.F.O
  fO : Addr
  dO : FuncData
  O : Fun K "_law_outcome" "_law_outcome" sOutcome fO dO
  bO : Binds K dO ["deed"] []
  mO : mg "_law_outcome" = some (.ref fO)
section
variable {P : Program} {w : World} {K : PySem.W.Frag} {mg : Str → Option Value} {base : Heap}
theorem scRef : FnScope ["odd", "told"] ["odd"] (defScope sRef) := ⟨rfl, rfl, rfl, by decide +kernel, rfl, by decide +kernel, by decide +kernel⟩
theorem ok_ref {f c T : Addr} {oc kV doc pm ct : Value} {od an : Option Addr} {osl : Array (Option Value)} (L : Rf K mg) (TB : TabB base mg c T)
    (lk : K.lookup f = some ⟨oc, od, .func (PySem.W.fnOf "_law_refusals" "_law_refusals" (defArgs sRef) (defBody sRef) (defScope sRef) .none kV doc pm an (.ref c) ct), osl⟩) (hcd : PySem.W.codeIn K (.ref c) "_law_refusals" = true) :
    FnOk P w K mg base CX0 9 f (PySem.W.fnOf "_law_refusals" "_law_refusals" (defArgs sRef) (defBody sRef) (defScope sRef) .none kV doc pm an (.ref c) ct) ["odd"] (spRef T) := by
  have GNeedWeaving : FnOk P w K mg base (L2.CX P w) 4 L.S.fNeedWeaving L.S.dNeedWeaving ["framing", "thing"] (spFx L.U.F.O.C 1) := by
    have z : FnOk P w K mg base (L2.CX P w) 4 L.S.fNeedWeaving L.S.dNeedWeaving ["framing", "thing"] (spFx L.S.Z.B.C 1) := ok_NeedWeaving L.S
    rw [L.eO] at z
    exact z
  have GFileOf : FnOk P w K mg base (L2.CX P w) 5 L.S.fFileOf L.S.dFileOf ["framing", "weaving"] (spFx L.U.F.O.C 1) := by
    have z : FnOk P w K mg base (L2.CX P w) 5 L.S.fFileOf L.S.dFileOf ["framing", "weaving"] (spFx L.S.Z.B.C 1) := ok_FileOf L.S
    rw [L.eO] at z
    exact z
  have GReadLines : FnOk P w K mg base (L2.CX P w) 5 L.S.fReadLines L.S.dReadLines ["framing", "weaving"] (spFx L.U.F.O.C 1) := by
    have z : FnOk P w K mg base (L2.CX P w) 5 L.S.fReadLines L.S.dReadLines ["framing", "weaving"] (spFx L.S.Z.B.C 1) := ok_ReadLines L.S
    rw [L.eO] at z
    exact z
  have GRestOf : FnOk P w K mg base (L2.CX P w) 5 L.S.fRestOf L.S.dRestOf ["framing", "weaving"] (spFx L.U.F.O.C 1) := by
    have z : FnOk P w K mg base (L2.CX P w) 5 L.S.fRestOf L.S.dRestOf ["framing", "weaving"] (spFx L.S.Z.B.C 1) := ok_RestOf L.S
    rw [L.eO] at z
    exact z
  have GIsWholeLine : FnOk P w K mg base (L2.CX P w) 4 L.S.fIsWholeLine L.S.dIsWholeLine ["framing", "entries"] (spFx L.U.F.O.C 1) := by
    have z : FnOk P w K mg base (L2.CX P w) 4 L.S.fIsWholeLine L.S.dIsWholeLine ["framing", "entries"] (spFx L.S.Z.B.C 1) := ok_IsWholeLine L.S
    rw [L.eO] at z
    exact z
  have GStands : FnOk P w K mg base (L2.CX P w) 5 L.S.fStands L.S.dStands ["framing", "weaving"] (spFx L.U.F.O.C 1) := by
    have z : FnOk P w K mg base (L2.CX P w) 5 L.S.fStands L.S.dStands ["framing", "weaving"] (spFx L.S.Z.B.C 1) := ok_Stands L.S
    rw [L.eO] at z
    exact z
  have GNeedScore : FnOk P w K mg base (L2.CX P w) 4 L.S.fNeedScore L.S.dNeedScore ["framing", "thing"] (spFx L.U.F.O.C 1) := by
    have z : FnOk P w K mg base (L2.CX P w) 4 L.S.fNeedScore L.S.dNeedScore ["framing", "thing"] (spFx L.S.Z.B.C 1) := ok_NeedScore L.S
    rw [L.eO] at z
    exact z
  have GCount : FnOk P w K mg base (L2.CX P w) 5 L.S.fCount L.S.dCount ["framing", "score"] (spFx L.U.F.O.C 1) := by
    have z : FnOk P w K mg base (L2.CX P w) 5 L.S.fCount L.S.dCount ["framing", "score"] (spFx L.S.Z.B.C 1) := ok_Count L.S
    rw [L.eO] at z
    exact z
  have GCountClean : FnOk P w K mg base (L2.CX P w) 5 L.S.fCountClean L.S.dCountClean ["framing", "score"] (spFx L.U.F.O.C 1) := by
    have z : FnOk P w K mg base (L2.CX P w) 5 L.S.fCountClean L.S.dCountClean ["framing", "score"] (spFx L.S.Z.B.C 1) := ok_CountClean L.S
    rw [L.eO] at z
    exact z
  have GWeavingAt : FnOk P w K mg base (L2.CX P w) 5 L.S.fWeavingAt L.S.dWeavingAt ["framing", "score", "number"] (spFx L.U.F.O.C 2) := by
    have z : FnOk P w K mg base (L2.CX P w) 5 L.S.fWeavingAt L.S.dWeavingAt ["framing", "score", "number"] (spFx L.S.Z.B.C 2) := ok_WeavingAt L.S
    rw [L.eO] at z
    exact z
  have GWeavingNumber : FnOk P w K mg base (L2.CX P w) 5 L.S.fWeavingNumber L.S.dWeavingNumber ["framing", "score", "weaving"] (spFx L.U.F.O.C 2) := by
    have z : FnOk P w K mg base (L2.CX P w) 5 L.S.fWeavingNumber L.S.dWeavingNumber ["framing", "score", "weaving"] (spFx L.S.Z.B.C 2) := ok_WeavingNumber L.S
    rw [L.eO] at z
    exact z
  have GIsClean : FnOk P w K mg base (L2.CX P w) 6 L.S.fIsClean L.S.dIsClean ["framing", "weaving"] (spFx L.U.F.O.C 1) := by
    have z : FnOk P w K mg base (L2.CX P w) 6 L.S.fIsClean L.S.dIsClean ["framing", "weaving"] (spFx L.S.Z.B.C 1) := ok_IsClean L.S
    rw [L.eO] at z
    exact z
  have GNeedTurned : FnOk P w K mg base (L2.CX P w) 4 L.S.fNeedTurned L.S.dNeedTurned ["framing", "thing"] (spFx L.U.F.O.C 1) := by
    have z : FnOk P w K mg base (L2.CX P w) 4 L.S.fNeedTurned L.S.dNeedTurned ["framing", "thing"] (spFx L.S.Z.B.C 1) := ok_NeedTurned L.S
    rw [L.eO] at z
    exact z
  have GFiles : FnOk P w K mg base (L2.CX P w) 5 L.S.fFiles L.S.dFiles ["framing", "thing", "manner"] (spFx L.U.F.O.C 2) := by
    have z : FnOk P w K mg base (L2.CX P w) 5 L.S.fFiles L.S.dFiles ["framing", "thing", "manner"] (spFx L.S.Z.B.C 2) := ok_Files L.S
    rw [L.eO] at z
    exact z
  have GFates : FnOk P w K mg base (L2.CX P w) 5 L.S.fFates L.S.dFates ["framing", "thing", "manner"] (spFx L.U.F.O.C 2) := by
    have z : FnOk P w K mg base (L2.CX P w) 5 L.S.fFates L.S.dFates ["framing", "thing", "manner"] (spFx L.S.Z.B.C 2) := ok_Fates L.S
    rw [L.eO] at z
    exact z
  have GPossible : FnOk P w K mg base (L2.CX P w) 5 L.S.fPossible L.S.dPossible ["framing", "text", "writers"] (spFx L.U.F.O.C 2) := by
    have z : FnOk P w K mg base (L2.CX P w) 5 L.S.fPossible L.S.dPossible ["framing", "text", "writers"] (spFx L.S.Z.B.C 2) := ok_Possible L.S
    rw [L.eO] at z
    exact z
  have GVerdicts : FnOk P w K mg base (L2.CX P w) 5 L.S.fVerdicts L.S.dVerdicts ["framing", "text", "writers"] (spFx L.U.F.O.C 2) := by
    have z : FnOk P w K mg base (L2.CX P w) 5 L.S.fVerdicts L.S.dVerdicts ["framing", "text", "writers"] (spFx L.S.Z.B.C 2) := ok_Verdicts L.S
    rw [L.eO] at z
    exact z
  have GExplained : FnOk P w K mg base (L2.CX P w) 5 L.S.fExplained L.S.dExplained ["framing", "text", "writers"] (spFx L.U.F.O.C 2) := by
    have z : FnOk P w K mg base (L2.CX P w) 5 L.S.fExplained L.S.dExplained ["framing", "text", "writers"] (spFx L.S.Z.B.C 2) := ok_Explained L.S
    rw [L.eO] at z
    exact z
  obtain ⟨oc2, od2, kV2, doc2, pm2, an2, cdv2, ct2, osl2, eO2, lkO, hcO⟩ := L.O.ex
  have bO := L.bO
  rw [eO2] at bO lkO
  refine fn_of (k := 8) lk hcd scRef (fun vs H Q E h => ?_) (fun A outer s H vs Q E hr h => ?_)
  · obtain ⟨v, r, rfl, _⟩ := h
    rfl
  · obtain ⟨v, r, rfl, bad, tb0, q⟩ := h
    have r2 := hr.mono (j := 2) (by decide)
    have lamq : ((T, lamQ) : Addr × Str) ∈ [((T, lamQ) : Addr × Str)] := List.mem_cons_self ..
    have lamu : ∀ p ∈ [((T, lamQ) : Addr × Str)], p.1 = T → p.2 = lamQ := fun p hp _ => by
      have e : p = ((T, lamQ) : Addr × Str) := by simpa using hp
      rw [e]
    refine ⟨_, PSs.nox (pss_cons (ps_set (i := 1) scRef.nd rfl (Or.inl rfl) (pe_lst (pa_cons (pe_lamcall (X := (cxOf CX0 P w K mg base ["odd", "told"] "_law_refusals" (defScope sRef) f (.ref c) A outer s H E).nox) (T := [((T, lamQ) : Addr × Str)]) (k := 6) (Ng := NO) (a := "deed") (TT := TOut L.U.F.O.C) (t := fun E => tCallS (spFx L.U.F.O.C 1) (fun σ => WE (fun cls d _ H => E cls d H) σ) (tCons (tVar 0) (tCons (tC .non) tNil))) (by rfl) L.mO L.O.kp lkO hcO bO scOutcome rfl (.inl rfl) (out_gives (X := (cxOf CX0 P w K mg base ["odd", "told"] "_law_refusals" (defScope sRef) f (.ref c) A outer s H E).nox) L.U r2) TB rfl lamq lamu hr (lamS_by (sc := defScope sRef) (by decide +kernel)) rfl (fun _ _ _ _ _ => rfl) (fun A outer s H E f c' hr => pe_callS GNeedWeaving (hr.mono (by omega)) (by rfl) L.S.mNeedWeaving L.S.FNeedWeaving.kp L.S.bNeedWeaving (fun σ => passAt (takes_of rfl rfl rfl rfl) σ) (pa_cons (pe_var (i := 0) rfl (.inr (.inr rfl))) (pa_cons pe_non pa_nil))))
        (pa_cons (pe_lamcall3 (y := "x") (X := (cxOf CX0 P w K mg base ["odd", "told"] "_law_refusals" (defScope sRef) f (.ref c) A outer s H E).nox) (T := [((T, lamQ) : Addr × Str)]) (k := 6) (Ng := NO) (a := "deed") (TT := TOut L.U.F.O.C) (t := fun E => tCallS (spFx L.U.F.O.C 1) (fun σ => WE (fun cls d _ H => E cls d H) σ) (tCons (tVar 0) (tCons (tC .non) tNil))) (by rfl) L.mO L.O.kp lkO hcO bO scOutcome rfl (.inl rfl) (out_gives (X := (cxOf CX0 P w K mg base ["odd", "told"] "_law_refusals" (defScope sRef) f (.ref c) A outer s H E).nox) L.U r2) TB rfl lamq lamu hr (lamD_by (sc := defScope sRef) (N := ["odd", "told"]) (by decide +kernel)) rfl rfl (fun _ _ _ _ _ _ _ _ _ h => BindsTo.of_defaults rfl h rfl rfl rfl) rfl (fun A outer s H E f c' hr => pe_callS GFileOf (hr.mono (by omega)) (by rfl) L.S.mFileOf L.S.FFileOf.kp L.S.bFileOf (fun σ => passAt (takes_of rfl rfl rfl rfl) σ) (pa_cons (pe_var (i := 0) rfl (.inr (.inr rfl))) (pa_cons pe_non pa_nil)))) pa_nil))))
      (pss_cons (ps_expr (pe_bm PySem.F.plainAttrs_list PySem.F.slot_list_append PySem.F.type_list_append mt_append (pv 1) (pa_cons (pe_lamcall (X := (cxOf CX0 P w K mg base ["odd", "told"] "_law_refusals" (defScope sRef) f (.ref c) A outer s H E).nox) (T := [((T, lamQ) : Addr × Str)]) (k := 6) (Ng := NO) (a := "deed") (TT := TOut L.U.F.O.C) (t := fun E => tCallS (spFx L.U.F.O.C 1) (fun σ => WE (fun cls d _ H => E cls d H) σ) (tCons (tVar 0) (tCons (tC .non) tNil))) (by rfl) L.mO L.O.kp lkO hcO bO scOutcome rfl (.inl rfl) (out_gives (X := (cxOf CX0 P w K mg base ["odd", "told"] "_law_refusals" (defScope sRef) f (.ref c) A outer s H E).nox) L.U r2) TB rfl lamq lamu hr (lamS_by (sc := defScope sRef) (by decide +kernel)) rfl (fun _ _ _ _ _ => rfl) (fun A outer s H E f c' hr => pe_callS GReadLines (hr.mono (by omega)) (by rfl) L.S.mReadLines L.S.FReadLines.kp L.S.bReadLines (fun σ => passAt (takes_of rfl rfl rfl rfl) σ) (pa_cons (pe_var (i := 0) rfl (.inr (.inr rfl))) (pa_cons pe_non pa_nil)))) pa_nil)))
      (pss_cons (ps_expr (pe_bm PySem.F.plainAttrs_list PySem.F.slot_list_append PySem.F.type_list_append mt_append (pv 1) (pa_cons (pe_lamcall (X := (cxOf CX0 P w K mg base ["odd", "told"] "_law_refusals" (defScope sRef) f (.ref c) A outer s H E).nox) (T := [((T, lamQ) : Addr × Str)]) (k := 6) (Ng := NO) (a := "deed") (TT := TOut L.U.F.O.C) (t := fun E => tCallS (spFx L.U.F.O.C 1) (fun σ => WE (fun cls d _ H => E cls d H) σ) (tCons (tVar 0) (tCons (tC .non) tNil))) (by rfl) L.mO L.O.kp lkO hcO bO scOutcome rfl (.inl rfl) (out_gives (X := (cxOf CX0 P w K mg base ["odd", "told"] "_law_refusals" (defScope sRef) f (.ref c) A outer s H E).nox) L.U r2) TB rfl lamq lamu hr (lamS_by (sc := defScope sRef) (by decide +kernel)) rfl (fun _ _ _ _ _ => rfl) (fun A outer s H E f c' hr => pe_callS GRestOf (hr.mono (by omega)) (by rfl) L.S.mRestOf L.S.FRestOf.kp L.S.bRestOf (fun σ => passAt (takes_of rfl rfl rfl rfl) σ) (pa_cons (pe_var (i := 0) rfl (.inr (.inr rfl))) (pa_cons pe_non pa_nil)))) pa_nil)))
      (pss_cons (ps_expr (pe_bm PySem.F.plainAttrs_list PySem.F.slot_list_append PySem.F.type_list_append mt_append (pv 1) (pa_cons (pe_lamcall (X := (cxOf CX0 P w K mg base ["odd", "told"] "_law_refusals" (defScope sRef) f (.ref c) A outer s H E).nox) (T := [((T, lamQ) : Addr × Str)]) (k := 6) (Ng := NO) (a := "deed") (TT := TOut L.U.F.O.C) (t := fun E => tCallS (spFx L.U.F.O.C 1) (fun σ => WE (fun cls d _ H => E cls d H) σ) (tCons (tVar 0) (tCons (tC .non) tNil))) (by rfl) L.mO L.O.kp lkO hcO bO scOutcome rfl (.inl rfl) (out_gives (X := (cxOf CX0 P w K mg base ["odd", "told"] "_law_refusals" (defScope sRef) f (.ref c) A outer s H E).nox) L.U r2) TB rfl lamq lamu hr (lamS_by (sc := defScope sRef) (by decide +kernel)) rfl (fun _ _ _ _ _ => rfl) (fun A outer s H E f c' hr => pe_callS GIsWholeLine (hr.mono (by omega)) (by rfl) L.S.mIsWholeLine L.S.FIsWholeLine.kp L.S.bIsWholeLine (fun σ => passAt (takes_of rfl rfl rfl rfl) σ) (pa_cons (pe_var (i := 0) rfl (.inr (.inr rfl))) (pa_cons pe_non pa_nil)))) pa_nil)))
      (pss_cons (ps_expr (pe_bm PySem.F.plainAttrs_list PySem.F.slot_list_append PySem.F.type_list_append mt_append (pv 1) (pa_cons (pe_lamcall (X := (cxOf CX0 P w K mg base ["odd", "told"] "_law_refusals" (defScope sRef) f (.ref c) A outer s H E).nox) (T := [((T, lamQ) : Addr × Str)]) (k := 6) (Ng := NO) (a := "deed") (TT := TOut L.U.F.O.C) (t := fun E => tCallS (spFx L.U.F.O.C 1) (fun σ => WE (fun cls d _ H => E cls d H) σ) (tCons (tVar 0) (tCons (tC .non) tNil))) (by rfl) L.mO L.O.kp lkO hcO bO scOutcome rfl (.inl rfl) (out_gives (X := (cxOf CX0 P w K mg base ["odd", "told"] "_law_refusals" (defScope sRef) f (.ref c) A outer s H E).nox) L.U r2) TB rfl lamq lamu hr (lamS_by (sc := defScope sRef) (by decide +kernel)) rfl (fun _ _ _ _ _ => rfl) (fun A outer s H E f c' hr => pe_callS GStands (hr.mono (by omega)) (by rfl) L.S.mStands L.S.FStands.kp L.S.bStands (fun σ => passAt (takes_of rfl rfl rfl rfl) σ) (pa_cons (pe_var (i := 0) rfl (.inr (.inr rfl))) (pa_cons pe_non pa_nil)))) pa_nil)))
      (pss_cons (ps_expr (pe_bm PySem.F.plainAttrs_list PySem.F.slot_list_append PySem.F.type_list_append mt_append (pv 1) (pa_cons (pe_lamcall (X := (cxOf CX0 P w K mg base ["odd", "told"] "_law_refusals" (defScope sRef) f (.ref c) A outer s H E).nox) (T := [((T, lamQ) : Addr × Str)]) (k := 6) (Ng := NO) (a := "deed") (TT := TOut L.U.F.O.C) (t := fun E => tCallS (spFx L.U.F.O.C 1) (fun σ => WE (fun cls d _ H => E cls d H) σ) (tCons (tVar 0) (tCons (tC .non) tNil))) (by rfl) L.mO L.O.kp lkO hcO bO scOutcome rfl (.inl rfl) (out_gives (X := (cxOf CX0 P w K mg base ["odd", "told"] "_law_refusals" (defScope sRef) f (.ref c) A outer s H E).nox) L.U r2) TB rfl lamq lamu hr (lamS_by (sc := defScope sRef) (by decide +kernel)) rfl (fun _ _ _ _ _ => rfl) (fun A outer s H E f c' hr => pe_callS GNeedScore (hr.mono (by omega)) (by rfl) L.S.mNeedScore L.S.FNeedScore.kp L.S.bNeedScore (fun σ => passAt (takes_of rfl rfl rfl rfl) σ) (pa_cons (pe_var (i := 0) rfl (.inr (.inr rfl))) (pa_cons pe_non pa_nil)))) pa_nil)))
      (pss_cons (ps_expr (pe_bm PySem.F.plainAttrs_list PySem.F.slot_list_append PySem.F.type_list_append mt_append (pv 1) (pa_cons (pe_lamcall (X := (cxOf CX0 P w K mg base ["odd", "told"] "_law_refusals" (defScope sRef) f (.ref c) A outer s H E).nox) (T := [((T, lamQ) : Addr × Str)]) (k := 6) (Ng := NO) (a := "deed") (TT := TOut L.U.F.O.C) (t := fun E => tCallS (spFx L.U.F.O.C 1) (fun σ => WE (fun cls d _ H => E cls d H) σ) (tCons (tVar 0) (tCons (tC .non) tNil))) (by rfl) L.mO L.O.kp lkO hcO bO scOutcome rfl (.inl rfl) (out_gives (X := (cxOf CX0 P w K mg base ["odd", "told"] "_law_refusals" (defScope sRef) f (.ref c) A outer s H E).nox) L.U r2) TB rfl lamq lamu hr (lamS_by (sc := defScope sRef) (by decide +kernel)) rfl (fun _ _ _ _ _ => rfl) (fun A outer s H E f c' hr => pe_callS GCount (hr.mono (by omega)) (by rfl) L.S.mCount L.S.FCount.kp L.S.bCount (fun σ => passAt (takes_of rfl rfl rfl rfl) σ) (pa_cons (pe_var (i := 0) rfl (.inr (.inr rfl))) (pa_cons pe_non pa_nil)))) pa_nil)))
      (pss_cons (ps_expr (pe_bm PySem.F.plainAttrs_list PySem.F.slot_list_append PySem.F.type_list_append mt_append (pv 1) (pa_cons (pe_lamcall (X := (cxOf CX0 P w K mg base ["odd", "told"] "_law_refusals" (defScope sRef) f (.ref c) A outer s H E).nox) (T := [((T, lamQ) : Addr × Str)]) (k := 6) (Ng := NO) (a := "deed") (TT := TOut L.U.F.O.C) (t := fun E => tCallS (spFx L.U.F.O.C 1) (fun σ => WE (fun cls d _ H => E cls d H) σ) (tCons (tVar 0) (tCons (tC .non) tNil))) (by rfl) L.mO L.O.kp lkO hcO bO scOutcome rfl (.inl rfl) (out_gives (X := (cxOf CX0 P w K mg base ["odd", "told"] "_law_refusals" (defScope sRef) f (.ref c) A outer s H E).nox) L.U r2) TB rfl lamq lamu hr (lamS_by (sc := defScope sRef) (by decide +kernel)) rfl (fun _ _ _ _ _ => rfl) (fun A outer s H E f c' hr => pe_callS GCountClean (hr.mono (by omega)) (by rfl) L.S.mCountClean L.S.FCountClean.kp L.S.bCountClean (fun σ => passAt (takes_of rfl rfl rfl rfl) σ) (pa_cons (pe_var (i := 0) rfl (.inr (.inr rfl))) (pa_cons pe_non pa_nil)))) pa_nil)))
      (pss_cons (ps_expr (pe_bm PySem.F.plainAttrs_list PySem.F.slot_list_append PySem.F.type_list_append mt_append (pv 1) (pa_cons (pe_lamcall (X := (cxOf CX0 P w K mg base ["odd", "told"] "_law_refusals" (defScope sRef) f (.ref c) A outer s H E).nox) (T := [((T, lamQ) : Addr × Str)]) (k := 6) (Ng := NO) (a := "deed") (TT := TOut L.U.F.O.C) (t := fun E => tCallS (spFx L.U.F.O.C 2) (fun σ => WE (fun cls d _ H => E cls d H) σ) (tCons (tVar 0) (tCons (tC .non) (tCons (tC .non) tNil)))) (by rfl) L.mO L.O.kp lkO hcO bO scOutcome rfl (.inl rfl) (out_gives (X := (cxOf CX0 P w K mg base ["odd", "told"] "_law_refusals" (defScope sRef) f (.ref c) A outer s H E).nox) L.U r2) TB rfl lamq lamu hr (lamS_by (sc := defScope sRef) (by decide +kernel)) rfl (fun _ _ _ _ _ => rfl) (fun A outer s H E f c' hr => pe_callS GWeavingAt (hr.mono (by omega)) (by rfl) L.S.mWeavingAt L.S.FWeavingAt.kp L.S.bWeavingAt (fun σ => passAt (takes_of rfl rfl rfl rfl) σ) (pa_cons (pe_var (i := 0) rfl (.inr (.inr rfl))) (pa_cons pe_non (pa_cons pe_non pa_nil))))) pa_nil)))
      (pss_cons (ps_expr (pe_bm PySem.F.plainAttrs_list PySem.F.slot_list_append PySem.F.type_list_append mt_append (pv 1) (pa_cons (pe_lamcall (X := (cxOf CX0 P w K mg base ["odd", "told"] "_law_refusals" (defScope sRef) f (.ref c) A outer s H E).nox) (T := [((T, lamQ) : Addr × Str)]) (k := 6) (Ng := NO) (a := "deed") (TT := TOut L.U.F.O.C) (t := fun E => tCallS (spFx L.U.F.O.C 2) (fun σ => WE (fun cls d _ H => E cls d H) σ) (tCons (tVar 0) (tCons (tC .non) (tCons (tC .non) tNil)))) (by rfl) L.mO L.O.kp lkO hcO bO scOutcome rfl (.inl rfl) (out_gives (X := (cxOf CX0 P w K mg base ["odd", "told"] "_law_refusals" (defScope sRef) f (.ref c) A outer s H E).nox) L.U r2) TB rfl lamq lamu hr (lamS_by (sc := defScope sRef) (by decide +kernel)) rfl (fun _ _ _ _ _ => rfl) (fun A outer s H E f c' hr => pe_callS GWeavingNumber (hr.mono (by omega)) (by rfl) L.S.mWeavingNumber L.S.FWeavingNumber.kp L.S.bWeavingNumber (fun σ => passAt (takes_of rfl rfl rfl rfl) σ) (pa_cons (pe_var (i := 0) rfl (.inr (.inr rfl))) (pa_cons pe_non (pa_cons pe_non pa_nil))))) pa_nil)))
      (pss_cons (ps_expr (pe_bm PySem.F.plainAttrs_list PySem.F.slot_list_append PySem.F.type_list_append mt_append (pv 1) (pa_cons (pe_lamcall (X := (cxOf CX0 P w K mg base ["odd", "told"] "_law_refusals" (defScope sRef) f (.ref c) A outer s H E).nox) (T := [((T, lamQ) : Addr × Str)]) (k := 6) (Ng := NO) (a := "deed") (TT := TOut L.U.F.O.C) (t := fun E => tCallS (spFx L.U.F.O.C 1) (fun σ => WE (fun cls d _ H => E cls d H) σ) (tCons (tVar 0) (tCons (tC .non) tNil))) (by rfl) L.mO L.O.kp lkO hcO bO scOutcome rfl (.inl rfl) (out_gives (X := (cxOf CX0 P w K mg base ["odd", "told"] "_law_refusals" (defScope sRef) f (.ref c) A outer s H E).nox) L.U r2) TB rfl lamq lamu hr (lamS_by (sc := defScope sRef) (by decide +kernel)) rfl (fun _ _ _ _ _ => rfl) (fun A outer s H E f c' hr => pe_callS GIsClean (hr.mono (by omega)) (by rfl) L.S.mIsClean L.S.FIsClean.kp L.S.bIsClean (fun σ => passAt (takes_of rfl rfl rfl rfl) σ) (pa_cons (pe_var (i := 0) rfl (.inr (.inr rfl))) (pa_cons pe_non pa_nil)))) pa_nil)))
      (pss_cons (ps_expr (pe_bm PySem.F.plainAttrs_list PySem.F.slot_list_append PySem.F.type_list_append mt_append (pv 1) (pa_cons (pe_lamcall (X := (cxOf CX0 P w K mg base ["odd", "told"] "_law_refusals" (defScope sRef) f (.ref c) A outer s H E).nox) (T := [((T, lamQ) : Addr × Str)]) (k := 6) (Ng := NO) (a := "deed") (TT := TOut L.U.F.O.C) (t := fun E => tCallS (spFx L.U.F.O.C 1) (fun σ => WE (fun cls d _ H => E cls d H) σ) (tCons (tVar 0) (tCons (tC .non) tNil))) (by rfl) L.mO L.O.kp lkO hcO bO scOutcome rfl (.inl rfl) (out_gives (X := (cxOf CX0 P w K mg base ["odd", "told"] "_law_refusals" (defScope sRef) f (.ref c) A outer s H E).nox) L.U r2) TB rfl lamq lamu hr (lamS_by (sc := defScope sRef) (by decide +kernel)) rfl (fun _ _ _ _ _ => rfl) (fun A outer s H E f c' hr => pe_callS GNeedTurned (hr.mono (by omega)) (by rfl) L.S.mNeedTurned L.S.FNeedTurned.kp L.S.bNeedTurned (fun σ => passAt (takes_of rfl rfl rfl rfl) σ) (pa_cons (pe_var (i := 0) rfl (.inr (.inr rfl))) (pa_cons pe_non pa_nil)))) pa_nil)))
      (pss_cons (ps_expr (pe_bm PySem.F.plainAttrs_list PySem.F.slot_list_append PySem.F.type_list_append mt_append (pv 1) (pa_cons (pe_lamcall (X := (cxOf CX0 P w K mg base ["odd", "told"] "_law_refusals" (defScope sRef) f (.ref c) A outer s H E).nox) (T := [((T, lamQ) : Addr × Str)]) (k := 6) (Ng := NO) (a := "deed") (TT := TOut L.U.F.O.C) (t := fun E => tCallS (spFx L.U.F.O.C 2) (fun σ => WE (fun cls d _ H => E cls d H) σ) (tCons (tVar 0) (tCons (tC .non) (tCons (tC .non) tNil)))) (by rfl) L.mO L.O.kp lkO hcO bO scOutcome rfl (.inl rfl) (out_gives (X := (cxOf CX0 P w K mg base ["odd", "told"] "_law_refusals" (defScope sRef) f (.ref c) A outer s H E).nox) L.U r2) TB rfl lamq lamu hr (lamS_by (sc := defScope sRef) (by decide +kernel)) rfl (fun _ _ _ _ _ => rfl) (fun A outer s H E f c' hr => pe_callS GFiles (hr.mono (by omega)) (by rfl) L.S.mFiles L.S.FFiles.kp L.S.bFiles (fun σ => passAt (takes_of rfl rfl rfl rfl) σ) (pa_cons (pe_var (i := 0) rfl (.inr (.inr rfl))) (pa_cons pe_non (pa_cons pe_non pa_nil))))) pa_nil)))
      (pss_cons (ps_expr (pe_bm PySem.F.plainAttrs_list PySem.F.slot_list_append PySem.F.type_list_append mt_append (pv 1) (pa_cons (pe_lamcall (X := (cxOf CX0 P w K mg base ["odd", "told"] "_law_refusals" (defScope sRef) f (.ref c) A outer s H E).nox) (T := [((T, lamQ) : Addr × Str)]) (k := 6) (Ng := NO) (a := "deed") (TT := TOut L.U.F.O.C) (t := fun E => tCallS (spFx L.U.F.O.C 2) (fun σ => WE (fun cls d _ H => E cls d H) σ) (tCons (tVar 0) (tCons (tC .non) (tCons (tC .non) tNil)))) (by rfl) L.mO L.O.kp lkO hcO bO scOutcome rfl (.inl rfl) (out_gives (X := (cxOf CX0 P w K mg base ["odd", "told"] "_law_refusals" (defScope sRef) f (.ref c) A outer s H E).nox) L.U r2) TB rfl lamq lamu hr (lamS_by (sc := defScope sRef) (by decide +kernel)) rfl (fun _ _ _ _ _ => rfl) (fun A outer s H E f c' hr => pe_callS GFates (hr.mono (by omega)) (by rfl) L.S.mFates L.S.FFates.kp L.S.bFates (fun σ => passAt (takes_of rfl rfl rfl rfl) σ) (pa_cons (pe_var (i := 0) rfl (.inr (.inr rfl))) (pa_cons pe_non (pa_cons pe_non pa_nil))))) pa_nil)))
      (pss_cons (ps_expr (pe_bm PySem.F.plainAttrs_list PySem.F.slot_list_append PySem.F.type_list_append mt_append (pv 1) (pa_cons (pe_lamcall (X := (cxOf CX0 P w K mg base ["odd", "told"] "_law_refusals" (defScope sRef) f (.ref c) A outer s H E).nox) (T := [((T, lamQ) : Addr × Str)]) (k := 6) (Ng := NO) (a := "deed") (TT := TOut L.U.F.O.C) (t := fun E => tCallS (spFx L.U.F.O.C 2) (fun σ => WE (fun cls d _ H => E cls d H) σ) (tCons (tVar 0) (tCons (tC .non) (tCons (tC .non) tNil)))) (by rfl) L.mO L.O.kp lkO hcO bO scOutcome rfl (.inl rfl) (out_gives (X := (cxOf CX0 P w K mg base ["odd", "told"] "_law_refusals" (defScope sRef) f (.ref c) A outer s H E).nox) L.U r2) TB rfl lamq lamu hr (lamS_by (sc := defScope sRef) (by decide +kernel)) rfl (fun _ _ _ _ _ => rfl) (fun A outer s H E f c' hr => pe_callS GPossible (hr.mono (by omega)) (by rfl) L.S.mPossible L.S.FPossible.kp L.S.bPossible (fun σ => passAt (takes_of rfl rfl rfl rfl) σ) (pa_cons (pe_var (i := 0) rfl (.inr (.inr rfl))) (pa_cons pe_non (pa_cons pe_non pa_nil))))) pa_nil)))
      (pss_cons (ps_expr (pe_bm PySem.F.plainAttrs_list PySem.F.slot_list_append PySem.F.type_list_append mt_append (pv 1) (pa_cons (pe_lamcall (X := (cxOf CX0 P w K mg base ["odd", "told"] "_law_refusals" (defScope sRef) f (.ref c) A outer s H E).nox) (T := [((T, lamQ) : Addr × Str)]) (k := 6) (Ng := NO) (a := "deed") (TT := TOut L.U.F.O.C) (t := fun E => tCallS (spFx L.U.F.O.C 2) (fun σ => WE (fun cls d _ H => E cls d H) σ) (tCons (tVar 0) (tCons (tC .non) (tCons (tC .non) tNil)))) (by rfl) L.mO L.O.kp lkO hcO bO scOutcome rfl (.inl rfl) (out_gives (X := (cxOf CX0 P w K mg base ["odd", "told"] "_law_refusals" (defScope sRef) f (.ref c) A outer s H E).nox) L.U r2) TB rfl lamq lamu hr (lamS_by (sc := defScope sRef) (by decide +kernel)) rfl (fun _ _ _ _ _ => rfl) (fun A outer s H E f c' hr => pe_callS GVerdicts (hr.mono (by omega)) (by rfl) L.S.mVerdicts L.S.FVerdicts.kp L.S.bVerdicts (fun σ => passAt (takes_of rfl rfl rfl rfl) σ) (pa_cons (pe_var (i := 0) rfl (.inr (.inr rfl))) (pa_cons pe_non (pa_cons pe_non pa_nil))))) pa_nil)))
      (pss_cons (ps_expr (pe_bm PySem.F.plainAttrs_list PySem.F.slot_list_append PySem.F.type_list_append mt_append (pv 1) (pa_cons (pe_lamcall (X := (cxOf CX0 P w K mg base ["odd", "told"] "_law_refusals" (defScope sRef) f (.ref c) A outer s H E).nox) (T := [((T, lamQ) : Addr × Str)]) (k := 6) (Ng := NO) (a := "deed") (TT := TOut L.U.F.O.C) (t := fun E => tCallS (spFx L.U.F.O.C 2) (fun σ => WE (fun cls d _ H => E cls d H) σ) (tCons (tVar 0) (tCons (tC .non) (tCons (tC .non) tNil)))) (by rfl) L.mO L.O.kp lkO hcO bO scOutcome rfl (.inl rfl) (out_gives (X := (cxOf CX0 P w K mg base ["odd", "told"] "_law_refusals" (defScope sRef) f (.ref c) A outer s H E).nox) L.U r2) TB rfl lamq lamu hr (lamS_by (sc := defScope sRef) (by decide +kernel)) rfl (fun _ _ _ _ _ => rfl) (fun A outer s H E f c' hr => pe_callS GExplained (hr.mono (by omega)) (by rfl) L.S.mExplained L.S.FExplained.kp L.S.bExplained (fun σ => passAt (takes_of rfl rfl rfl rfl) σ) (pa_cons (pe_var (i := 0) rfl (.inr (.inr rfl))) (pa_cons pe_non (pa_cons pe_non pa_nil))))) pa_nil)))
      (pss_one (ps_ret (pv 1)))))))))))))))))))), ?_⟩
    have badn := bad_nt bad
    refine rd_out1 rfl tb0 badn (fun H1 p1 e1 t1 h1 => ?_)
    have b1 := badn.same (nt_ext e1)
    refine rd_out1 rfl t1 b1 (fun H2 p2 e2 t2 h2 => ⟨(by show 2 ≤ sizeLine; decide), fun L0 hL0 => ?_⟩)
    have b2 := b1.same (nt_ext e2)
    have nL : nt H L0 = none := by
      cases z : nt H L0 with
      | none => rfl
      | some o =>
        have z1 := nt_sub _ _ (nt_ext (e1.trans e2) _ _ z)
        rw [hL0] at z1
        cases z1
    have uL := same_upd (o := HO.lst [V.ref p1, V.ref p2]) hL0
    have T2 : Tl [((T, lamQ) : Addr × Str)] H (upd H2 L0 (.lst [V.ref p1, V.ref p2])) L0 [p1, p2] r := ⟨((nt_ext e1).trans (nt_ext e2)).trans (nt_same uL), t2.ext uL, upd_same, nL, fun p hp => by
      have cs : p = p1 ∨ p = p2 := by simpa using hp
      rcases cs with rfl | rfl
      · exact uL _ _ (ext_tup e2 h1)
      · exact uL _ _ h2⟩
    have c2 := b2.same (nt_same uL)
    refine ⟨_, rfl, .inl ⟨rfl, _, SqL.of T2.hL⟩, rd_out1 rfl T2.tb c2 (fun H3 p3 e3 t3 h3 => ⟨L0, _, _, rfl, rfl, ext_lst e3 T2.hL, (by show 2 < sizeLine; decide), ?_⟩)⟩
    have T3 := T2.next e3 t3 h3
    have c3 : Bad (nt (upd H3 L0 (.lst ((_ : List Addr).map V.ref ++ [V.ref p3])))) v r := badn.same T3.s
    refine ⟨_, rfl, .inl ⟨rfl, _, SqL.of T3.hL⟩, rd_out1 rfl T3.tb c3 (fun H4 p4 e4 t4 h4 => ⟨L0, _, _, rfl, rfl, ext_lst e4 T3.hL, (by show 3 < sizeLine; decide), ?_⟩)⟩
    have T4 := T3.next e4 t4 h4
    have c4 : Bad (nt (upd H4 L0 (.lst ((_ : List Addr).map V.ref ++ [V.ref p4])))) v r := badn.same T4.s
    refine ⟨_, rfl, .inl ⟨rfl, _, SqL.of T4.hL⟩, rd_out1 rfl T4.tb c4 (fun H5 p5 e5 t5 h5 => ⟨L0, _, _, rfl, rfl, ext_lst e5 T4.hL, (by show 4 < sizeLine; decide), ?_⟩)⟩
    have T5 := T4.next e5 t5 h5
    have c5 : Bad (nt (upd H5 L0 (.lst ((_ : List Addr).map V.ref ++ [V.ref p5])))) v r := badn.same T5.s
    refine ⟨_, rfl, .inl ⟨rfl, _, SqL.of T5.hL⟩, rd_out1 rfl T5.tb c5 (fun H6 p6 e6 t6 h6 => ⟨L0, _, _, rfl, rfl, ext_lst e6 T5.hL, (by show 5 < sizeLine; decide), ?_⟩)⟩
    have T6 := T5.next e6 t6 h6
    have c6 : Bad (nt (upd H6 L0 (.lst ((_ : List Addr).map V.ref ++ [V.ref p6])))) v r := badn.same T6.s
    refine ⟨_, rfl, .inl ⟨rfl, _, SqL.of T6.hL⟩, rd_out1 rfl T6.tb c6 (fun H7 p7 e7 t7 h7 => ⟨L0, _, _, rfl, rfl, ext_lst e7 T6.hL, (by show 6 < sizeLine; decide), ?_⟩)⟩
    have T7 := T6.next e7 t7 h7
    have c7 : Bad (nt (upd H7 L0 (.lst ((_ : List Addr).map V.ref ++ [V.ref p7])))) v r := badn.same T7.s
    refine ⟨_, rfl, .inl ⟨rfl, _, SqL.of T7.hL⟩, rd_out1 rfl T7.tb c7 (fun H8 p8 e8 t8 h8 => ⟨L0, _, _, rfl, rfl, ext_lst e8 T7.hL, (by show 7 < sizeLine; decide), ?_⟩)⟩
    have T8 := T7.next e8 t8 h8
    have c8 : Bad (nt (upd H8 L0 (.lst ((_ : List Addr).map V.ref ++ [V.ref p8])))) v r := badn.same T8.s
    refine ⟨_, rfl, .inl ⟨rfl, _, SqL.of T8.hL⟩, rd_out1 rfl T8.tb c8 (fun H9 p9 e9 t9 h9 => ⟨L0, _, _, rfl, rfl, ext_lst e9 T8.hL, (by show 8 < sizeLine; decide), ?_⟩)⟩
    have T9 := T8.next e9 t9 h9
    have c9 : Bad (nt (upd H9 L0 (.lst ((_ : List Addr).map V.ref ++ [V.ref p9])))) v r := badn.same T9.s
    refine ⟨_, rfl, .inl ⟨rfl, _, SqL.of T9.hL⟩, rd_out2 rfl T9.tb c9 (fun H10 p10 e10 t10 h10 => ⟨L0, _, _, rfl, rfl, ext_lst e10 T9.hL, (by show 9 < sizeLine; decide), ?_⟩)⟩
    have T10 := T9.next e10 t10 h10
    have c10 : Bad (nt (upd H10 L0 (.lst ((_ : List Addr).map V.ref ++ [V.ref p10])))) v r := badn.same T10.s
    refine ⟨_, rfl, .inl ⟨rfl, _, SqL.of T10.hL⟩, rd_out2 rfl T10.tb c10 (fun H11 p11 e11 t11 h11 => ⟨L0, _, _, rfl, rfl, ext_lst e11 T10.hL, (by show 10 < sizeLine; decide), ?_⟩)⟩
    have T11 := T10.next e11 t11 h11
    have c11 : Bad (nt (upd H11 L0 (.lst ((_ : List Addr).map V.ref ++ [V.ref p11])))) v r := badn.same T11.s
    refine ⟨_, rfl, .inl ⟨rfl, _, SqL.of T11.hL⟩, rd_out1 rfl T11.tb c11 (fun H12 p12 e12 t12 h12 => ⟨L0, _, _, rfl, rfl, ext_lst e12 T11.hL, (by show 11 < sizeLine; decide), ?_⟩)⟩
    have T12 := T11.next e12 t12 h12
    have c12 : Bad (nt (upd H12 L0 (.lst ((_ : List Addr).map V.ref ++ [V.ref p12])))) v r := badn.same T12.s
    refine ⟨_, rfl, .inl ⟨rfl, _, SqL.of T12.hL⟩, rd_out1 rfl T12.tb c12 (fun H13 p13 e13 t13 h13 => ⟨L0, _, _, rfl, rfl, ext_lst e13 T12.hL, (by show 12 < sizeLine; decide), ?_⟩)⟩
    have T13 := T12.next e13 t13 h13
    have c13 : Bad (nt (upd H13 L0 (.lst ((_ : List Addr).map V.ref ++ [V.ref p13])))) v r := badn.same T13.s
    refine ⟨_, rfl, .inl ⟨rfl, _, SqL.of T13.hL⟩, rd_out2 rfl T13.tb c13 (fun H14 p14 e14 t14 h14 => ⟨L0, _, _, rfl, rfl, ext_lst e14 T13.hL, (by show 13 < sizeLine; decide), ?_⟩)⟩
    have T14 := T13.next e14 t14 h14
    have c14 : Bad (nt (upd H14 L0 (.lst ((_ : List Addr).map V.ref ++ [V.ref p14])))) v r := badn.same T14.s
    refine ⟨_, rfl, .inl ⟨rfl, _, SqL.of T14.hL⟩, rd_out2 rfl T14.tb c14 (fun H15 p15 e15 t15 h15 => ⟨L0, _, _, rfl, rfl, ext_lst e15 T14.hL, (by show 14 < sizeLine; decide), ?_⟩)⟩
    have T15 := T14.next e15 t15 h15
    have c15 : Bad (nt (upd H15 L0 (.lst ((_ : List Addr).map V.ref ++ [V.ref p15])))) v r := badn.same T15.s
    refine ⟨_, rfl, .inl ⟨rfl, _, SqL.of T15.hL⟩, rd_out2 rfl T15.tb c15 (fun H16 p16 e16 t16 h16 => ⟨L0, _, _, rfl, rfl, ext_lst e16 T15.hL, (by show 15 < sizeLine; decide), ?_⟩)⟩
    have T16 := T15.next e16 t16 h16
    have c16 : Bad (nt (upd H16 L0 (.lst ((_ : List Addr).map V.ref ++ [V.ref p16])))) v r := badn.same T16.s
    refine ⟨_, rfl, .inl ⟨rfl, _, SqL.of T16.hL⟩, rd_out2 rfl T16.tb c16 (fun H17 p17 e17 t17 h17 => ⟨L0, _, _, rfl, rfl, ext_lst e17 T16.hL, (by show 16 < sizeLine; decide), ?_⟩)⟩
    have T17 := T16.next e17 t17 h17
    have c17 : Bad (nt (upd H17 L0 (.lst ((_ : List Addr).map V.ref ++ [V.ref p17])))) v r := badn.same T17.s
    refine ⟨_, rfl, .inl ⟨rfl, _, SqL.of T17.hL⟩, rd_out2 rfl T17.tb c17 (fun H18 p18 e18 t18 h18 => ⟨L0, _, _, rfl, rfl, ext_lst e18 T17.hL, (by show 17 < sizeLine; decide), ?_⟩)⟩
    have T18 := T17.next e18 t18 h18
    have c18 : Bad (nt (upd H18 L0 (.lst ((_ : List Addr).map V.ref ++ [V.ref p18])))) v r := badn.same T18.s
    exact ⟨_, rfl, q _ L0 _ T18 rfl⟩
end
end K34

set_option Elab.async false
set_option linter.all false
set_option maxRecDepth 100000
set_option maxHeartbeats 400000
/-! The law. -/
namespace K34
open PySem L2 L2.EV LamX PySem.Spec
abbrev sLaw : Stmt := top 91
structure Dr (H0 H : Hp) (m c l0 l : Addr) (k : Int) : Prop where
  at_ : MAt H m c l k
  hl : l = l0 ∨ H0 l = none
  kp : ∀ b o, H0 b = some o → b ≠ m → b ≠ l0 → H b = some o
theorem tabs_dr {T : List (Addr × Str)} {H H' : Hp} {m c l l' : Addr} {k k0 : Int} (t : Tabs T H) (M : MAt H m c l k0) (d : Dr H H' m c l l' k) : Tabs T H' := fun p hp => by
  obtain ⟨ps, h1, h2, h3⟩ := t p hp
  obtain ⟨ls, hl, _⟩ := M.hl
  have kp : ∀ b o, H b = some o → (∀ kvs, o ≠ .dK kvs) → (∀ xs, o ≠ .lst xs) → H' b = some o := fun b o e n1 n2 => d.kp b o e (ne_of e M.hm (n1 _)) (ne_of e hl (n2 _))
  refine ⟨ps, kp _ _ h1 (fun _ z => by cases z) (fun _ z => by cases z), h2, fun pos cv e => ?_⟩
  obtain ⟨c', e1, e2⟩ := h3 pos cv e
  exact ⟨c', e1, kp _ _ e2 (fun _ z => by unfold CodeO at z; cases z) (fun _ z => by unfold CodeO at z; cases z)⟩

/-! ### things that are no framings, with their numbers -/
def PairOk (H : Hp) (x : V) : Prop := ∃ (p : Addr) (odd r : V), x = .ref p ∧ H p = some (.tup [odd, r]) ∧ Bad H odd r
theorem PairOk.same {H H' : Hp} {x : V} (h : PairOk H x) (s : Same H H') : PairOk H' x := by
  obtain ⟨p, odd, r, e, e1, b⟩ := h
  exact ⟨p, odd, r, e, s _ _ e1, b.same s⟩
/-- what is new -/
def mn (H H' : Hp) : Hp := fun b => if (H b).isSome = true then none else H' b
theorem mn_mk {H H' : Hp} {b : Addr} {o : HO} (n : H b = none) (e : H' b = some o) : mn H H' b = some o := by
  unfold mn
  rw [n]
  exact e
theorem mn_some {H H' : Hp} {b : Addr} {o : HO} (e : mn H H' b = some o) : H b = none ∧ H' b = some o := by
  unfold mn at e
  cases h : H b with
  | none =>
    rw [h] at e
    exact ⟨rfl, e⟩
  | some u =>
    rw [h] at e
    cases e
theorem mn_same {H H1 H2 : Hp} (s : Same H1 H2) : Same (mn H H1) (mn H H2) := fun b o e => mn_mk (mn_some e).1 (s _ _ (mn_some e).2)
theorem mn_left {H H1 H2 : Hp} (s : Same H H1) : Same (mn H1 H2) (mn H H2) := fun b o e => by
  obtain ⟨e1, e2⟩ := mn_some e
  exact mn_mk (same_none s e1) e2
def RP (t : TE) : Prop := ∀ (σ : L2.St) (H : Hp) (Q : VK), (∀ H' x, Same H H' → PairOk (mn H H') x → Q x H') → t σ H Q
def RPs (t : TA) (n : Nat) : Prop := ∀ (σ : L2.St) (H : Hp) (Q : List V → Hp → Prop), (∀ H' xs, Same H H' → xs.length = n → (∀ x ∈ xs, PairOk (mn H H') x) → Q xs H') → t σ H Q
theorem rps_nil : RPs tNil 0 := fun σ H Q h => h H [] (Same.refl H) rfl (fun x hx => by cases hx)
theorem rps_cons {t : TE} {ta : TA} {n : Nat} (h1 : RP t) (h2 : RPs ta n) : RPs (tCons t ta) (n + 1) := fun σ H Q h => h1 σ H _ fun H1 x s1 o1 => h2 σ H1 _ fun H2 xs s2 l2 o2 => h H2 (x :: xs) (s1.trans s2) (by rw [List.length_cons, l2]) fun y hy => by
  rcases List.mem_cons.mp hy with rfl | hy
  · exact o1.same (mn_same s2)
  · exact (o2 y hy).same (mn_left s1)
theorem szS_of {a b : PyData} {s : Str} (h : s.length ≤ 1000) : szS (.tuple [a, .str s, b]) := fun _ _ _ e s' e2 => by
  cases e
  cases e2
  exact h
theorem szS_non : szS .none := fun _ _ _ e => by cases e
abbrev dS (a : Int) (s : Str) (b : Int) : PyData := .tuple [.int a, .str s, .int b]
theorem da_S {H : Hp} {p : Addr} {a b : Int} {s : Str} (e : H p = some (.tup [.int a, .str s, .int b])) : Da H (.ref p) (dS a s b) := .tup e (.cons (.int a) (.cons (.str s) (.cons (.int b) .nil)))
theorem bad_one {H : Hp} {p1 p2 : Addr} {a b : Int} {s : Str} {k : Nat} (e1 : H p1 = some (.tup [.int a, .str s, .int b])) (e2 : H p2 = some (.tup [.ref p1])) (hs : s.length ≤ 1000) (h : wrgF [dS a s b] none 0 = some k) : Bad H (.ref p2) (.int (k : Int)) :=
  .inr (.inr ⟨p2, _, _, rfl, e2, .cons (da_S e1) .nil, by show 1 ≤ 16; decide, fun d hd => by rw [List.mem_singleton.mp hd]; exact szS_of hs, .inr (.inl ⟨k, by simp, h, rfl⟩)⟩)
theorem fra_one {H : Hp} {p1 p2 : Addr} {a b : Int} {s : Str} (e1 : H p1 = some (.tup [.int a, .str s, .int b])) (e2 : H p2 = some (.tup [.ref p1])) : FrA H p2 [(a, s, b)] := ⟨[p1], e2, rfl, fun i t x h1 h2 => by
  cases i with
  | zero =>
    cases h1
    cases h2
    exact e1
  | succ i => cases h1⟩
theorem fra_two {H : Hp} {p1 p2 p3 : Addr} {a b a' b' : Int} {s s' : Str} (e1 : H p1 = some (.tup [.int a, .str s, .int b])) (e2 : H p2 = some (.tup [.int a', .str s', .int b'])) (e3 : H p3 = some (.tup [.ref p1, .ref p2])) : FrA H p3 [(a, s, b), (a', s', b')] := ⟨[p1, p2], e3, rfl, fun i t x h1 h2 => by
  match i with
  | 0 =>
    cases h1
    cases h2
    exact e1
  | 1 =>
    cases h1
    cases h2
    exact e2
  | i + 2 => cases h1⟩
theorem bad_oneJ {H : Hp} {p1 p2 : Addr} (e1 : H p1 = some (.tup [.int 0, .str "a", .int 1])) (e2 : H p2 = some (.tup [.ref p1])) : Bad H (.ref p2) (.int (-1)) :=
  .inr (.inr ⟨p2, _, _, rfl, e2, .cons (da_S e1) .nil, by show 1 ≤ 16; decide, fun d hd => by rw [List.mem_singleton.mp hd]; exact szS_of (by decide +kernel), .inr (.inr ⟨by simp, by decide +kernel, ⟨[(0, "a", 1)], 1, fun g => g = 1, 0, fra_one e1 e2,
    ⟨by decide, fun x hx => by rw [List.mem_singleton.mp hx]; decide, by decide⟩, fun x hx _ => by rw [List.mem_singleton.mp hx], fun x hx e => by rw [List.mem_singleton.mp hx], ⟨_, List.mem_singleton.mpr rfl, .inl rfl⟩, by decide⟩, rfl⟩)⟩)
theorem bad_twoJ {H : Hp} {p1 p2 p3 : Addr} (e1 : H p1 = some (.tup [.int 0, .str "a;", .int 0])) (e2 : H p2 = some (.tup [.int 1, .str ";", .int 0])) (e3 : H p3 = some (.tup [.ref p1, .ref p2])) : Bad H (.ref p3) (.int (-1)) :=
  .inr (.inr ⟨p3, _, _, rfl, e3, .cons (da_S e1) (.cons (da_S e2) .nil), by show 2 ≤ 16; decide, fun d hd => by
      have cs : d = dS 0 "a;" 0 ∨ d = dS 1 ";" 0 := by simpa using hd
      rcases cs with rfl | rfl <;> exact szS_of (by decide +kernel), .inr (.inr ⟨by simp, by decide +kernel, ⟨[(0, "a;", 0), (1, ";", 0)], 1, fun g => g = 0, 1, fra_two e1 e2 e3,
    ⟨by decide, fun x hx => by
      have cs : x = ((0, "a;", 0) : T3) ∨ x = ((1, ";", 0) : T3) := by simpa using hx
      rcases cs with rfl | rfl <;> decide, by decide⟩, fun x hx _ => by
      have cs : x = ((0, "a;", 0) : T3) ∨ x = ((1, ";", 0) : T3) := by simpa using hx
      rcases cs with rfl | rfl <;> rfl, fun x hx e => by
      have cs : x = ((0, "a;", 0) : T3) ∨ x = ((1, ";", 0) : T3) := by simpa using hx
      rcases cs with rfl | rfl <;> rfl, ⟨((1, ";", 0) : T3), by simp, .inl rfl⟩, by decide⟩, rfl⟩)⟩)
theorem bad_two {H : Hp} {p1 p2 p3 : Addr} {a b a' b' : Int} {s s' : Str} {k : Nat} (e1 : H p1 = some (.tup [.int a, .str s, .int b])) (e2 : H p2 = some (.tup [.int a', .str s', .int b'])) (e3 : H p3 = some (.tup [.ref p1, .ref p2])) (hs : s.length ≤ 1000) (hs' : s'.length ≤ 1000)
    (h : wrgF [dS a s b, dS a' s' b'] none 0 = some k) : Bad H (.ref p3) (.int (k : Int)) :=
  .inr (.inr ⟨p3, _, _, rfl, e3, .cons (da_S e1) (.cons (da_S e2) .nil), by show 2 ≤ 16; decide, fun d hd => by
      have cs : d = dS a s b ∨ d = dS a' s' b' := by simpa using hd
      rcases cs with rfl | rfl
      · exact szS_of hs
      · exact szS_of hs', .inr (.inl ⟨k, by simp, h, rfl⟩)⟩)
/-! readings -/
abbrev t3 (a : Int) (s : Str) (b : Int) : TE := tTup (tCons (tC (.int a)) (tCons (tC (.str s)) (tCons (tC (.int b)) tNil)))
theorem rp_val {v r : V} {d : PyData} (hd : ∀ H, Da H v d) (c : isTup d = false) (hr : r = .non) : RP (tTup (tCons (tC v) (tCons (tC r) tNil))) := fun σ H Q h => by
  refine ⟨by show 2 ≤ sizeLine; decide, fun p hp => h _ _ (same_upd hp) ⟨p, v, r, rfl, mn_mk hp upd_same, .inl ⟨d, hd _, c, hr⟩⟩⟩
theorem rp_emp : RP (tTup (tCons (tTup tNil) (tCons (tC .non) tNil))) := fun σ H Q h => by
  refine ⟨by decide, fun p1 h1 => ⟨by show 2 ≤ sizeLine; decide, fun p hp => ?_⟩⟩
  have u1 := same_upd (o := HO.tup []) h1
  have u2 := same_upd (o := HO.tup [V.ref p1, V.non]) hp
  exact h _ _ (u1.trans u2) ⟨p, .ref p1, .non, rfl, mn_mk (same_none u1 hp) upd_same, .inr (.inr ⟨p1, [], [], rfl, mn_mk h1 (u2 _ _ upd_same), .nil, by decide, (fun d hd => by cases hd), .inl ⟨rfl, rfl⟩⟩)⟩
theorem rp_dct : RP (tTup (tCons tDNewK (tCons (tC .non) tNil))) := fun σ H Q h => by
  intro p1 h1
  refine ⟨by show 2 ≤ sizeLine; decide, fun p hp => ?_⟩
  have u1 := same_upd (o := HO.dK []) h1
  have u2 := same_upd (o := HO.tup [V.ref p1, V.non]) hp
  exact h _ _ (u1.trans u2) ⟨p, .ref p1, .non, rfl, mn_mk (same_none u1 hp) upd_same, .inr (.inl ⟨p1, rfl, mn_mk h1 (u2 _ _ upd_same), rfl⟩)⟩
theorem rp_lst {a b : Int} {s : Str} : RP (tTup (tCons (tLst (tCons (t3 a s b) tNil)) (tCons (tC .non) tNil))) := fun σ H Q h => by
  refine ⟨by show 3 ≤ sizeLine; decide, fun p1 h1 => ⟨by show 1 ≤ sizeLine; decide, fun p2 h2 => ⟨by show 2 ≤ sizeLine; decide, fun p hp => ?_⟩⟩⟩
  have u1 := same_upd (o := HO.tup [V.int a, V.str s, V.int b]) h1
  have u2 := same_upd (o := HO.lst [V.ref p1]) h2
  have u3 := same_upd (o := HO.tup [V.ref p2, V.non]) hp
  exact h _ _ (u1.trans (u2.trans u3)) ⟨p, .ref p2, .non, rfl, mn_mk (same_none (u1.trans u2) hp) upd_same, .inl ⟨.list [dS a s b], .lst (mn_mk (same_none u1 h2) (u3 _ _ upd_same)) (.cons (da_S (mn_mk h1 (u3 _ _ (u2 _ _ upd_same)))) .nil), rfl, rfl⟩⟩
theorem rp_one {a b : Int} {s : Str} {r : V} {tn : TE} (hn : ∀ (σ : L2.St) (H : Hp) (Q : VK), Q r H → tn σ H Q) (hb : ∀ H p1 p2, H p1 = some (.tup [.int a, .str s, .int b]) → H p2 = some (.tup [.ref p1]) → Bad H (.ref p2) r) :
    RP (tTup (tCons (tTup (tCons (t3 a s b) tNil)) (tCons tn tNil))) := fun σ H Q h => by
  refine ⟨by show 3 ≤ sizeLine; decide, fun p1 h1 => ⟨by show 1 ≤ sizeLine; decide, fun p2 h2 => hn _ _ _ ⟨by show 2 ≤ sizeLine; decide, fun p hp => ?_⟩⟩⟩
  have u1 := same_upd (o := HO.tup [V.int a, V.str s, V.int b]) h1
  have u2 := same_upd (o := HO.tup [V.ref p1]) h2
  have u3 := same_upd (o := HO.tup [V.ref p2, r]) hp
  exact h _ _ (u1.trans (u2.trans u3)) ⟨p, .ref p2, r, rfl, mn_mk (same_none (u1.trans u2) hp) upd_same, hb _ p1 p2 (mn_mk h1 (u3 _ _ (u2 _ _ upd_same))) (mn_mk (same_none u1 h2) (u3 _ _ upd_same))⟩
theorem rp_two {a b a' b' : Int} {s s' : Str} {r : V} {tn : TE} (hn : ∀ (σ : L2.St) (H : Hp) (Q : VK), Q r H → tn σ H Q) (hb : ∀ H p1 p2 p3, H p1 = some (.tup [.int a, .str s, .int b]) → H p2 = some (.tup [.int a', .str s', .int b']) → H p3 = some (.tup [.ref p1, .ref p2]) → Bad H (.ref p3) r) :
    RP (tTup (tCons (tTup (tCons (t3 a s b) (tCons (t3 a' s' b') tNil))) (tCons tn tNil))) := fun σ H Q h => by
  refine ⟨by show 3 ≤ sizeLine; decide, fun p1 h1 => ⟨by show 3 ≤ sizeLine; decide, fun p2 h2 => ⟨by show 2 ≤ sizeLine; decide, fun p3 h3 => hn _ _ _ ⟨by show 2 ≤ sizeLine; decide, fun p hp => ?_⟩⟩⟩⟩
  have u1 := same_upd (o := HO.tup [V.int a, V.str s, V.int b]) h1
  have u2 := same_upd (o := HO.tup [V.int a', V.str s', V.int b']) h2
  have u3 := same_upd (o := HO.tup [V.ref p1, V.ref p2]) h3
  have u4 := same_upd (o := HO.tup [V.ref p3, r]) hp
  exact h _ _ (u1.trans (u2.trans (u3.trans u4))) ⟨p, .ref p3, r, rfl, mn_mk (same_none (u1.trans (u2.trans u3)) hp) upd_same, hb _ p1 p2 p3 (mn_mk h1 (u4 _ _ (u3 _ _ (u2 _ _ upd_same)))) (mn_mk (same_none u1 h2) (u4 _ _ (u3 _ _ upd_same))) (mn_mk (same_none (u1.trans u2) h3) (u4 _ _ upd_same))⟩
theorem rp_oneN {a b : Int} {s : Str} : RP (tTup (tCons (tTup (tCons (t3 a s b) (tCons (tC .non) tNil))) (tCons (tC (.int 1)) tNil))) → RP (tTup (tCons (tTup (tCons (t3 a s b) (tCons (tC .non) tNil))) (tCons (tC (.int 1)) tNil))) := id
theorem bad_oneN {H : Hp} {p1 p3 : Addr} (e1 : H p1 = some (.tup [.int 0, .str "a;", .int 0])) (e3 : H p3 = some (.tup [.ref p1, .non])) : Bad H (.ref p3) (.int 1) :=
  .inr (.inr ⟨p3, _, _, rfl, e3, .cons (da_S e1) (.cons .non .nil), by show 2 ≤ 16; decide, fun d hd => by
      have cs : d = dS 0 "a;" 0 ∨ d = .none := by simpa using hd
      rcases cs with rfl | rfl
      · exact szS_of (by decide +kernel)
      · exact szS_non, .inr (.inl ⟨1, by simp, by decide +kernel, rfl⟩)⟩)
theorem rp_twoN : RP (tTup (tCons (tTup (tCons (t3 0 "a;" 0) (tCons (tC .non) tNil))) (tCons (tC (.int 1)) tNil))) := fun σ H Q h => by
  refine ⟨by show 3 ≤ sizeLine; decide, fun p1 h1 => ⟨by show 2 ≤ sizeLine; decide, fun p3 h3 => ⟨by show 2 ≤ sizeLine; decide, fun p hp => ?_⟩⟩⟩
  have u1 := same_upd (o := HO.tup [V.int 0, V.str "a;", V.int 0]) h1
  have u3 := same_upd (o := HO.tup [V.ref p1, V.non]) h3
  have u4 := same_upd (o := HO.tup [V.ref p3, V.int 1]) hp
  exact h _ _ (u1.trans (u3.trans u4)) ⟨p, .ref p3, .int 1, rfl, mn_mk (same_none (u1.trans u3) hp) upd_same, bad_oneN (mn_mk h1 (u4 _ _ (u3 _ _ upd_same))) (mn_mk (same_none u1 h3) (u4 _ _ upd_same))⟩
theorem seq_lst {ta : TA} {n i : Nat} {u : TS} {D : Ends} {σ : L2.St} {H : Hp} (h : RPs ta n)
    (k : ∀ H' xs, Same H H' → xs.length = n → (∀ x ∈ xs, PairOk (mn H H') x) → xs.length ≤ sizeLine ∧ ∀ p, H' p = none → u D (σ.set i (some (.ref p))) (upd H' p (.lst xs))) : tSeq (tAsg (tLst ta) (gName i)) u D σ H := h σ H _ k
theorem seq_cat {ta : TA} {n i : Nat} {u : TS} {D : Ends} {σ : L2.St} {H : Hp} {p0 : Addr} {x0 : List V} (h : RPs ta n) (e0 : σ[i]? = some (some (.ref p0))) (eH : H p0 = some (.lst x0))
    (k : ∀ H' xs, Same H H' → xs.length = n → (∀ x ∈ xs, PairOk (mn H H') x) → xs.length ≤ sizeLine ∧ ∀ q, H' q = none → x0.length + xs.length ≤ sizeLine ∧ ∀ p, upd H' q (.lst xs) p = none → u D (σ.set i (some (.ref p))) (upd (upd H' q (.lst xs)) p (.lst (x0 ++ xs)))) :
    tSeq (tAsg (tOp rCat (tVar i) (tLst ta)) (gName i)) u D σ H :=
  ⟨.ref p0, e0, h σ H _ fun H' xs s l o => ⟨(k H' xs s l o).1, fun q hq => ⟨p0, q, x0, xs, rfl, rfl, same_upd hq _ _ (s _ _ eH), upd_same, ((k H' xs s l o).2 q hq).1, ((k H' xs s l o).2 q hq).2⟩⟩⟩
theorem gName_go {i : Nat} {v : V} {σ : L2.St} {H : Hp} {k : L2.St → Hp → Prop} (h : k (σ.set i (some v)) H) : gName i v σ H k := h
theorem hn_c {r : V} : ∀ (σ : L2.St) (H : Hp) (Q : VK), Q r H → tC r σ H Q := fun _ _ _ q => q
/-! ### what is told -/
def dv : V → PyData
  | .int i => .int i
  | _ => .none
def ddF (r : V) : PyData := .tuple [.str "framing", dv r]
def RNum (r : V) : Prop := r = .non ∨ ∃ i : Int, r = .int i
theorem Bad.num {H : Hp} {v r : V} (h : Bad H v r) : RNum r := by
  rcases h with ⟨d, da, c, e⟩ | ⟨a, e1, e2, e3⟩ | ⟨a, xs, ds, e1, e2, e3, e4, e5, h⟩
  · exact .inl e
  · exact .inl e3
  · rcases h with h | ⟨k, _, _, h⟩ | ⟨_, _, _, h⟩
    · exact .inl h.2
    · exact .inr ⟨_, h⟩
    · exact .inr ⟨_, h⟩
theorem da_r {H : Hp} {p : Addr} {r : V} (hr : RNum r) (e : H p = some (.tup [.str "framing", r])) : Da H (.ref p) (ddF r) := by
  rcases hr with rfl | ⟨i, rfl⟩
  · exact .tup e (.cons (.str _) (.cons .non .nil))
  · exact .tup e (.cons (.str _) (.cons (.int i) .nil))
theorem da_rs {H : Hp} {r : V} (hr : RNum r) : ∀ {ps : List Addr}, (∀ p ∈ ps, H p = some (.tup [.str "framing", r])) → DaAll H (ps.map V.ref) (List.replicate ps.length (ddF r))
  | [], _ => .nil
  | p :: ps, h => .cons (da_r hr (h p (List.mem_cons_self ..))) (da_rs hr fun x hx => h x (List.mem_cons_of_mem _ hx))
theorem eqv_r {r : V} (hr : RNum r) : PyData.eqv (ddF r) (ddF r) = true := by
  rcases hr with rfl | ⟨i, rfl⟩ <;> simp [ddF, dv, PyData.eqv, PyData.eqvAll]
theorem eqv_rs {r : V} (hr : RNum r) : ∀ n : Nat, PyData.eqvAll (List.replicate n (ddF r)) (List.replicate n (ddF r)) = true
  | 0 => by simp [PyData.eqvAll]
  | n + 1 => by
    rw [List.replicate_succ]
    simp only [PyData.eqvAll, eqv_r hr, eqv_rs hr n, Bool.and_self]
theorem shaped_rs {r : V} (hr : RNum r) (n : Nat) : SeqAt.shaped (.list (List.replicate n (ddF r))) = true := by
  have one : (ddF r).canLay0 = true ∧ (ddF r).depth ≤ 1 := by
    rcases hr with rfl | ⟨i, rfl⟩ <;> refine ⟨?_, ?_⟩ <;> simp [ddF, dv, PyData.canLay0, PyData.canLayAll0, PyData.depth, PyData.depthAll] <;> decide +kernel
  have all : ∀ n : Nat, PyData.canLayAll0 (List.replicate n (ddF r)) = true ∧ PyData.depthAll (List.replicate n (ddF r)) ≤ 1 := by
    intro n
    induction n with
    | zero => exact ⟨by simp [PyData.canLayAll0], by simp [PyData.depthAll]⟩
    | succ n ih =>
      rw [List.replicate_succ]
      refine ⟨by simp only [PyData.canLayAll0, one.1, ih.1, Bool.and_self], ?_⟩
      have := one.2
      have := ih.2
      simp only [PyData.depthAll]
      omega
  show (PyData.canLay0 (.list (List.replicate n (ddF r))) && decide (PyData.depth (.list (List.replicate n (ddF r))) ≤ 64)) = true
  have z := (all n).2
  have h1 : PyData.canLay0 (.list (List.replicate n (ddF r))) = true := by
    simp only [PyData.canLay0]
    exact (all n).1
  have h2 : PyData.depth (.list (List.replicate n (ddF r))) ≤ 64 := by
    simp only [PyData.depth]
    omega
  rw [h1, decide_eq_true h2]
  rfl
end K34

set_option Elab.async false
set_option linter.all false
set_option maxRecDepth 100000
set_option maxHeartbeats 1000000
/-! The law itself. -/
namespace K34
open PySem L2 L2.EV LamX PySem.Spec
abbrev NL : List Str := ["script", "m", "turn", "some", "odd", "number"]
structure Lall (K : PySem.W.Frag) (mg : Str → Option Value) where
  R : Rf K mg
  fB : Addr
  dB : FuncData
  Be : Fun K "_law_begun" "_law_begun" sBegun fB dB
  bB : Binds K dB ["script"] []
  mB : mg "_law_begun" = some (.ref fB)
  fN : Addr
  dN : FuncData
  N : Fun K "_law_next" "_law_next" sNext fN dN
  bN : Binds K dN ["m", "total"] []
  mN : mg "_law_next" = some (.ref fN)
  TD : TxtD mg
  mi : mg "min" = none
  ra : mg "range" = none
def spLawT (K : PySem.W.Frag) (T : Addr) : Sp := fun vs H Q _ => ∃ (a : Addr) (ns : List Int), vs = [.ref a] ∧ SqL K H a (ns.map V.int) ∧ ns.length ≤ 63 ∧ H T = some (.tbl #[]) ∧ ∀ H', Q (.bl true) H'
section
variable {P : Program} {w : World} {K : PySem.W.Frag} {mg : Str → Option Value} {base : Heap}
theorem scLaw : FnScope NL ["script"] (defScope sLaw) := ⟨rfl, rfl, rfl, by decide +kernel, rfl, by decide +kernel, by decide +kernel⟩
theorem ok_law {fR c T : Addr} {oc kV doc pm ct : Value} {od an : Option Addr} {osl : Array (Option Value)} (L : Lall K mg) (TB : TabB base mg c T)
    (lk : K.lookup fR = some ⟨oc, od, .func (PySem.W.fnOf "_law_refusals" "_law_refusals" (defArgs sRef) (defBody sRef) (defScope sRef) .none kV doc pm an (.ref c) ct), osl⟩) (hcd : PySem.W.codeIn K (.ref c) "_law_refusals" = true)
    (kR : PySem.W.keepIn K (.ref fR) = true) (bR : Binds K (PySem.W.fnOf "_law_refusals" "_law_refusals" (defArgs sRef) (defBody sRef) (defScope sRef) .none kV doc pm an (.ref c) ct) ["odd"] []) (mR : mg "_law_refusals" = some (.ref fR))
    {f : Addr} {fd : FuncData} (F : Fun K "law" "law" sLaw f fd) : FnG P w K mg base CX0 10 f fd ["script"] (spLawT K T) := by
  have GB : FnOk P w K mg base CX0 1 L.fB L.dB ["script"] (spBegun K) := ok_begun L.Be L.TD
  have GX : FnOk P w K mg base CX0 1 L.fN L.dN ["m", "total"] spNext := ok_next L.N L.TD
  have GR := ok_ref (P := P) (w := w) L.R TB lk hcd
  refine okG (k := 9) F scLaw (fun vs H Q E h => ?_) (fun cdv A outer s H vs Q E hr hgd h => ?_)
  · obtain ⟨a, ns, rfl, _⟩ := h
    rfl
  · obtain ⟨a, ns, rfl, hS, hlen, hT0, q⟩ := h
    have hu64 := hr.units
    have r1 := hr.mono (j := 1) (by decide)
    refine ⟨_, pss_cons (ps_set (i := 1) scLaw.nd rfl (Or.inl rfl) (pe_call GB r1 (by rfl) L.mB L.Be.kp L.bB .nil pass0 (pa_cons (pv 0) pa_nil)))
      (pss_cons (ps_for PassesOwn.never rfl (pi_range1 (by rfl) L.ra (pa_cons (pe_op op_add pe_int (pe_callB (call_min2 rfl) (by rfl) L.mi (by decide +kernel) (pa_cons (pe_callB call_len_seq (by rfl) L.TD.len PySem.boot_len (pa_cons (pv 0) pa_nil)) (pa_cons pe_int pa_nil)))) pa_nil))
          (pg_name (i := 2) scLaw.nd rfl (Or.inl rfl))
        (pss_cons (ps_set (i := 3) scLaw.nd rfl (Or.inl rfl) (pe_lst (pa_cons (pe_tup (pa_cons pe_non (pa_cons pe_non pa_nil))) (pa_cons (pe_tup (pa_cons (pe_tup pa_nil) (pa_cons pe_non pa_nil))) (pa_cons (pe_tup (pa_cons (pe_lst (pa_cons (pe_tup (pa_cons pe_int (pa_cons pe_str (pa_cons pe_int pa_nil)))) pa_nil)) (pa_cons pe_non pa_nil))) (pa_cons (pe_tup (pa_cons pe_str (pa_cons pe_non pa_nil))) (pa_cons (pe_tup (pa_cons (pe_tup (pa_cons (pe_tup (pa_cons pe_int (pa_cons pe_str (pa_cons pe_int pa_nil)))) pa_nil)) (pa_cons pe_int pa_nil))) pa_nil)))))))
        (pss_cons (ps_set (i := 3) scLaw.nd rfl (Or.inl rfl) (pe_op op_cat (pv 3) (pe_lst (pa_cons (pe_tup (pa_cons (pe_tup (pa_cons (pe_tup (pa_cons pe_int (pa_cons pe_str (pa_cons pe_int pa_nil)))) pa_nil)) (pa_cons pe_int pa_nil))) (pa_cons (pe_tup (pa_cons (pe_tup (pa_cons (pe_tup (pa_cons pe_int (pa_cons pe_str (pa_cons pe_int pa_nil)))) (pa_cons (pe_tup (pa_cons pe_int (pa_cons pe_str (pa_cons pe_int pa_nil)))) pa_nil))) (pa_cons pe_int pa_nil))) (pa_cons (pe_tup (pa_cons (pe_tup (pa_cons (pe_tup (pa_cons pe_int (pa_cons pe_str (pa_cons pe_int pa_nil)))) (pa_cons pe_non pa_nil))) (pa_cons pe_int pa_nil))) pa_nil))))))
        (pss_cons (ps_set (i := 3) scLaw.nd rfl (Or.inl rfl) (pe_op op_cat (pv 3) (pe_lst (pa_cons (pe_tup (pa_cons (pe_tup (pa_cons (pe_tup (pa_cons pe_int (pa_cons pe_str (pa_cons pe_int pa_nil)))) pa_nil)) (pa_cons (pe_un un_neg pe_int) pa_nil))) pa_nil))))
        (pss_cons (ps_set (i := 3) scLaw.nd rfl (Or.inl rfl) (pe_op op_cat (pv 3) (pe_lst (pa_cons (pe_tup (pa_cons (pe_tup (pa_cons (pe_tup (pa_cons pe_int (pa_cons pe_str (pa_cons pe_int pa_nil)))) (pa_cons (pe_tup (pa_cons pe_int (pa_cons pe_str (pa_cons pe_int pa_nil)))) pa_nil))) (pa_cons (pe_un un_neg pe_int) pa_nil))) (pa_cons (pe_tup (pa_cons (pe_tup (pa_cons (pe_tup (pa_cons pe_int (pa_cons pe_str (pa_cons pe_int pa_nil)))) pa_nil)) (pa_cons pe_int pa_nil))) (pa_cons (pe_tup (pa_cons (pe_tup (pa_cons (pe_tup (pa_cons pe_int (pa_cons pe_str (pa_cons pe_int pa_nil)))) pa_nil)) (pa_cons pe_int pa_nil))) (pa_cons (pe_tup (pa_cons pe_dnewK (pa_cons pe_non pa_nil))) pa_nil)))))))
        (pss_cons (ps_asg (pe_ix ix_list (pv 3) (pe_call GX r1 (by rfl) L.mN L.N.kp L.bN .nil pass0 (pa_cons (pv 1) (pa_cons pe_int pa_nil))) (fun _ _ => rfl)) (pg_tup rfl (pgs_cons (pg_name (i := 4) scLaw.nd rfl (Or.inl rfl)) (pgs_cons (pg_name (i := 5) scLaw.nd rfl (Or.inl rfl)) pgs_nil))))
        (pss_one (ps_if (pt_cmpR (op_neD hu64) (pe_call GR hr (by rfl) mR kR bR .nil pass0 (pa_cons (pv 4) pa_nil)) (pe_op op_rep (pe_lst (pa_cons (pe_tup (pa_cons pe_str (pa_cons (pv 5) pa_nil))) pa_nil)) pe_int) (nomark _)) (pss_one (ps_ret pe_bl)) pss_nil))))))))
      (pss_one (ps_ret pe_bl))), ?_⟩
    refine ⟨_, rfl, a, ns, rfl, hS, by omega, fun m mc l0 H0 M0 hm hmc hl sm0 => ?_⟩
    have nl : (ns.map V.int).length ≤ 63 := by rw [List.length_map]; exact hlen
    have tb0 : Tabs [((T, lamQ) : Addr × Str)] H0 := fun p hp => by
      have e : p = ((T, lamQ) : Addr × Str) := by simpa using hp
      rw [e]
      exact TabS.nil (sm0 _ _ hT0)
    refine ⟨_, rfl, a, _, rfl, .inl (sm0.seq hS), _, 6, rfl, 2, _, rfl, rfl, _, rfl, by split <;> omega, by split <;> omega, ?_⟩
    have hN : (2 + if (6 : Int) < ((ns.map V.int).length : Nat) then 6 else (((ns.map V.int).length : Nat) : Int)).toNat ≤ 8 := by split <;> omega
    generalize (2 + if (6 : Int) < ((ns.map V.int).length : Nat) then 6 else (((ns.map V.int).length : Nat) : Int)).toNat = N at hN ⊢
    refine for_it walk_range (fun i σ H' => ∃ (v2 v3 v4 v5 : Option V) (l : Addr) (k : Int), σ = [some (.ref a), some (.ref m), v2, v3, v4, v5] ∧ MAt H' m mc l k ∧ k ≤ 10 * i ∧ Tabs [((T, lamQ) : Addr × Str)] H')
      ⟨none, none, none, none, l0, 0, rfl, M0, by omega, tb0⟩ (fun _ _ _ _ _ => trivial) ?_ ?_
    · rintro i x σ H1z H1 hi ⟨v2, v3, v4, v5, l1, k1, rfl, M1, kk1, tb1⟩ ⟨rfl, rfl⟩
      refine gName_go ?_
      refine seq_lst (rps_cons (rp_val (d := .none) (fun H => .non) rfl rfl) (rps_cons rp_emp (rps_cons rp_lst (rps_cons (rp_val (d := .str "a;") (fun H => .str _) rfl rfl) (rps_cons (rp_one hn_c (fun H p1 p2 e1 e2 => bad_one (k := 0) e1 e2 (by decide +kernel) (by decide +kernel))) rps_nil))))) (fun Ha xa sa la oa => ⟨by rw [la]; decide, fun pa hpa => ?_⟩)
      have ua := same_upd (o := HO.lst xa) hpa
      refine seq_cat (rps_cons (rp_one hn_c (fun H p1 p2 e1 e2 => bad_one (k := 0) e1 e2 (by decide +kernel) (by decide +kernel))) (rps_cons (rp_two hn_c (fun H p1 p2 p3 e1 e2 e3 => bad_two (k := 1) e1 e2 e3 (by decide +kernel) (by decide +kernel) (by decide +kernel))) (rps_cons rp_twoN rps_nil))) rfl upd_same (fun Hb xb sb lb ob => ⟨by rw [lb]; decide, fun pb hpb => ⟨by rw [la, lb]; decide, fun pc hpc => ?_⟩⟩)
      have ub := same_upd (o := HO.lst xb) hpb
      have uc := same_upd (o := HO.lst (xa ++ xb)) hpc
      have s1 := ((sa.trans ua).trans (sb.trans ub)).trans uc
      have o1 : ∀ x ∈ xa ++ xb, PairOk (mn H1 (upd (upd Hb pb (.lst xb)) pc (.lst (xa ++ xb)))) x := fun x hx => by
        rcases List.mem_append.mp hx with hx | hx
        · exact (oa x hx).same (mn_same (ua.trans (sb.trans (ub.trans uc))))
        · exact ((ob x hx).same (mn_same (ub.trans uc))).same (mn_left (sa.trans ua))
      have l2 : (xa ++ xb).length = 8 := by rw [List.length_append, la, lb]
      have ec := upd_same (H := upd Hb pb (.lst xb)) (a := pc) (o := HO.lst (xa ++ xb))
      clear oa ob ua sa sb ub uc
      generalize xa ++ xb = x2 at o1 l2 ec s1 ⊢
      generalize upd (upd Hb pb (.lst xb)) pc (.lst x2) = H2 at s1 o1 ec ⊢
      refine seq_cat (rps_cons (rp_one (r := .int (-1)) (fun _ _ _ q => ⟨1, rfl, q⟩) (fun H p1 p2 e1 e2 => bad_oneJ e1 e2)) rps_nil) rfl ec (fun Hd xd sd ld od => ⟨by rw [ld]; decide, fun pd hpd => ⟨by rw [l2, ld]; decide, fun pe hpe => ?_⟩⟩)
      have ud := same_upd (o := HO.lst xd) hpd
      have ue := same_upd (o := HO.lst (x2 ++ xd)) hpe
      have s2 := s1.trans (sd.trans (ud.trans ue))
      have o2 : ∀ x ∈ x2 ++ xd, PairOk (mn H1 (upd (upd Hd pd (.lst xd)) pe (.lst (x2 ++ xd)))) x := fun x hx => by
        rcases List.mem_append.mp hx with hx | hx
        · exact (o1 x hx).same (mn_same (sd.trans (ud.trans ue)))
        · exact ((od x hx).same (mn_same (ud.trans ue))).same (mn_left s1)
      have l3 : (x2 ++ xd).length = 9 := by rw [List.length_append, l2, ld]
      have ee := upd_same (H := upd Hd pd (.lst xd)) (a := pe) (o := HO.lst (x2 ++ xd))
      clear o1 od s1 sd ud ue ec
      generalize x2 ++ xd = x3 at o2 l3 ee s2 ⊢
      generalize upd (upd Hd pd (.lst xd)) pe (.lst x3) = H3 at s2 o2 ee ⊢
      refine seq_cat (rps_cons (rp_two (r := .int (-1)) (fun _ _ _ q => ⟨1, rfl, q⟩) (fun H p1 p2 p3 e1 e2 e3 => bad_twoJ e1 e2 e3)) (rps_cons (rp_one hn_c (fun H p1 p2 e1 e2 => bad_one (k := 0) e1 e2 (by decide +kernel) (by decide +kernel))) (rps_cons (rp_one hn_c (fun H p1 p2 e1 e2 => bad_one (k := 0) e1 e2 (by decide +kernel) (by decide +kernel))) (rps_cons rp_dct rps_nil)))) rfl ee (fun Hf xf sf lf of => ⟨by rw [lf]; decide, fun pf hpf => ⟨by rw [l3, lf]; decide, fun pg hpg => ?_⟩⟩)
      have uf := same_upd (o := HO.lst xf) hpf
      have ug := same_upd (o := HO.lst (x3 ++ xf)) hpg
      have s3 := s2.trans (sf.trans (uf.trans ug))
      have o3 : ∀ x ∈ x3 ++ xf, PairOk (mn H1 (upd (upd Hf pf (.lst xf)) pg (.lst (x3 ++ xf)))) x := fun x hx => by
        rcases List.mem_append.mp hx with hx | hx
        · exact (o2 x hx).same (mn_same (sf.trans (uf.trans ug)))
        · exact ((of x hx).same (mn_same (uf.trans ug))).same (mn_left s2)
      have l4 : (x3 ++ xf).length = 13 := by rw [List.length_append, l3, lf]
      have ng : H1 pg = none := same_none (s2.trans (sf.trans uf)) hpg
      have eg := upd_same (H := upd Hf pf (.lst xf)) (a := pg) (o := HO.lst (x3 ++ xf))
      clear o2 of s2 sf uf ug ee hpg
      generalize x3 ++ xf = x4 at o3 l4 eg s3 ⊢
      generalize upd (upd Hf pf (.lst xf)) pg (.lst x4) = H4 at s3 o3 eg ⊢
      have M4 := M1.same s3
      refine ⟨_, rfl, _, rfl, m, mc, l1, k1, 13, rfl, M4, by decide, by decide, by omega, fun rr H5 l5 k5 a5 b5 g5 N5 f5 q5 => ?_⟩
      have D5 : Dr H4 H5 m mc l1 l5 k5 := ⟨N5, f5, q5⟩
      obtain ⟨ls, hls, _⟩ := M1.hl
      have sub : Same (mn H1 H4) H5 := fun b o e => by
        obtain ⟨e1, e2⟩ := mn_some e
        exact q5 b o e2 (ne_of_none M1.hm e1).symm (ne_of_none hls e1).symm
      have eS : H5 pg = some (.lst x4) := sub _ _ (mn_mk ng eg)
      have tb5 := tabs_dr (tb1.ext s3) M4 D5
      obtain ⟨j, rfl⟩ := Int.eq_ofNat_of_zero_le a5
      have jl : j < x4.length := by omega
      obtain ⟨pp, odd, r, ex, ep, bad⟩ := (o3 x4[j] (List.getElem_mem jl)).same sub
      have nr := bad.num
      refine ⟨pg, _, (j : Int), x4[j], rfl, rfl, SqL.of eS, atI_nat (List.getElem?_eq_getElem jl), ?_⟩
      rw [ex]
      refine ⟨pp, _, rfl, SqT.of ep, rfl, _, _, rfl, _, _, rfl, rfl, ?_⟩
      refine ⟨_, rfl, odd, r, rfl, bad, tb5, fun H6 LL ps T6 l18 => ?_⟩
      have s56 : Same (nt H5) H6 := T6.s.trans nt_sub
      refine ⟨_, rfl, (by show 2 ≤ sizeLine; decide), fun p7 n7 => ⟨(by show 1 ≤ sizeLine; decide), fun p8 n8 => ⟨p8, 18, _, rfl, rfl, upd_same, by decide, by decide, by show 1 * 18 ≤ sizeLine; decide, fun p9 n9 => ?_⟩⟩⟩
      have u7 := same_upd (o := HO.tup [V.str "framing", r]) n7
      have u8 := same_upd (o := HO.lst [V.ref p7]) n8
      have u9 := same_upd (o := HO.lst ((List.replicate 18 p7).map V.ref)) n9
      have s79 := (u7.trans u8).trans u9
      have ed := (u8.trans u9) _ _ (upd_same (H := H6) (a := p7) (o := HO.tup [V.str "framing", r]))
      have al1 := da_rs nr (ps := ps) fun p h => s79 _ _ (T6.all p h)
      have al2 := da_rs nr (ps := List.replicate 18 p7) fun p h => by
        obtain ⟨_, rfl⟩ := List.mem_replicate.mp h
        exact ed
      rw [l18] at al1
      rw [List.length_replicate] at al2
      have shp := shaped_rs nr 18
      refine ⟨.list (List.replicate 18 (ddF r)), .list (List.replicate 18 (ddF r)), Da.dp _ _ (.lst (s79 _ _ T6.hL) al1), Da.dp _ _ (.lst upd_same al2), shp, shp, _, rfl, iteF' (by simp only [PyData.eqv, eqv_rs nr]; rfl) ?_⟩
      exact ⟨_, _, _, _, l5, k5, rfl, (mat_nt N5).same (s56.trans s79), by push_cast; omega, T6.tb.ext s79⟩
    · rintro σ HE ⟨v2, v3, v4, v5, l, k, rfl, ME, kkE, tbE⟩
      exact q _
end
end K34

set_option Elab.async false
set_option linter.all false
set_option maxRecDepth 100000
set_option maxHeartbeats 4000000
/-! The end of a law that shows values by repr and makes lambdas. -/
namespace L2
namespace EV
open PySem PySem.Spec PyProof.Rows LamX
/-- b is not True -/
theorem op_isnotB {X : Cx} : OpR X (compareOp .IsNot) (fun x y H Q => ∃ a b : Bool, x = .bl a ∧ y = .bl b ∧ Q (.bl (a != b)) H) := by
  intro pins s σ H x y v u Q I rx ry h
  obtain ⟨a, b, rfl, rfl, q⟩ := h
  obtain rfl : v = Value.bool a := rx
  obtain rfl : u = Value.bool b := ry
  exact isnot_bool ⟨.bl _, H, I, rfl, q⟩
/-- a raising def called where it raises nothing -/
theorem passF {X : Cx} : Passes (L2.CX X.prog X.w) X (fun _ _ _ => False) := fun _ _ _ _ _ _ _ c => by
  obtain ⟨_, _, _, _, _, _, _, _, _, _, _, _, z⟩ := c
  exact z.elim
section
variable {P : Program} {w : World} {K : PySem.W.Frag} {mg : Str → Option Value} {base : Heap}
/-- okG, the def's code object told -/
theorem okGc {x qual : Str} {st : Stmt} {f c : Addr} {N ps : List Str} {k : Nat} {sp : Sp} {oc kV doc pm ct : Value} {od an : Option Addr} {osl : Array (Option Value)}
    (lk : K.lookup f = some ⟨oc, od, .func (PySem.W.fnOf x qual (defArgs st) (defBody st) (defScope st) .none kV doc pm an (.ref c) ct), osl⟩) (hcd : PySem.W.codeIn K (.ref c) qual = true) (S : FnScope N ps (defScope st))
    (len : ∀ vs H Q E, sp vs H Q E → vs.length = ps.length)
    (hbody : ∀ (A : Around) (outer : List Env) (s : Shared) (H : Hp) (vs : List V) (Q : VK) (E : XK), Room k (A.deeper (envOfC qual (defScope st) s.heap.objs.size f (.ref c))) → A.guards = some [] → sp vs H Q E →
      ∃ t, PSs (cxOf CX0 P w K mg base N qual (defScope st) f (.ref c) A outer s H E).nox (defBody st) t ∧ t { nx := fun _ H' => Q .non H', rt := Q } (start N vs) H) :
    FnG P w K mg base CX0 (k + 1) f (PySem.W.fnOf x qual (defArgs st) (defBody st) (defScope st) .none kV doc pm an (.ref c) ct) ps sp := by
  refine ⟨len, fun A outer s H args us vs Q E hr hgd e0 hb r hsp => ?_⟩
  have hl := len _ _ _ _ hsp
  have keptB : ∀ b o, base.get? b = some o → s.heap.get? b = some o := fun b o e => (e0.bs b o e).1
  have KX : K.In s.heap := e0.mod.kin.keeps keptB
  have lim : s.heap.NoLimit := e0.mod.nolimit.keeps keptB
  have kinds : ∀ y ∈ ps.zip us, (defScope st).names.lookup y.1 = some .local ∨
      ((defScope st).names.lookup y.1 = some .cell ∧ ((cellsFrom (s.heap.objs.size + 1) (defScope st).names []).lookup y.1).isSome = true) := fun ⟨n, v⟩ hy =>
    (S.par n (List.of_mem_zip hy).1).elim .inl fun q => .inr ⟨q, PySem.W.cellsFrom_some _ _ _ (.inl q)⟩
  refine codeAny_call_function hr.depth (KX _ _ lk) rfl S.co S.gen rfl (PySem.W.codeRec_of KX hcd) (hb _ _ _ _ ?_)
  refine wpAny_newFunctionEnv_cells S.kind kinds fun env he s1 x => ?_
  subst he
  refine ⟨lim.keeps x.toInCall.keep, codeAny_func ?_⟩
  obtain ⟨t, ht0, hq⟩ := hbody A outer s H vs Q E (hr.deeper _) hgd hsp
  have I : Inv (cxOf CX0 P w K mg base N qual (defScope st) f (.ref c) A outer s H E) [] (start N vs) H s1 := inv_start S hr.hd e0 hl r x
  refine wpAny_mono (ht0.nox.run [] s1 (start N vs) H _ I hq) (fun fl s' hs => ?_) fun e s' hs => hs
  cases fl with
  | ret u =>
    obtain ⟨v, σ', H', J, rv, q⟩ := hs
    exact ⟨v, H', J.os, J.bare, J.base, J.hok, rv, q⟩
  | next =>
    obtain ⟨σ', H', J, q⟩ := hs
    exact ⟨V.non, H', J.os, J.bare, J.base, J.hok, rfl, q⟩
  | brk =>
    obtain ⟨_, _, _, q⟩ := hs
    exact False.elim q
  | cont =>
    obtain ⟨_, _, _, q⟩ := hs
    exact False.elim q
end
/-- the law's own call: no repr runs yet, and the law's table of code objects is empty -/
theorem law_callT {P : Program} {w : World} {K : PySem.W.Frag} {mg mb : Str → Option Value} {k : Nat} {fa a c T : Addr} {fd : FuncData} {x : Str} {sp : Sp} {s1 : Shared} {vs : List Value} {ns : List Int}
    (KX : K.In s1.heap) (hns : s1.heap.Ns mainGlobals mg) (hb : s1.heap.Ns builtinsNs mb) (hbb : ∀ x : Str, x ≠ "__name__" → mb x = bootBuiltins x) (hlim : s1.heap.NoLimit) (hg : s1.gens = #[])
    (hT : s1.heap.get? T = some { cls := .none, data := .fields #[] }) (nT : K.lookup T = none) (hC : PySem.W.CodeHd s1.heap c T)
    (hm : ∃ (bm : Addr) (ob : Obj), mg "__builtins__" = some (.ref bm) ∧ bm ≠ builtinsNs ∧ s1.heap.get? bm = some ob ∧ ob.cls = .type "module" ∧ ob.dict = some builtinsNs ∧ ob.data = .plain)
    (ha : s1.heap.get? a = some { cls := .type "list", data := .seq vs.toArray }) (hi : IntsAre vs ns) (hl : ns.length ≤ sizeLine) (hr : Room k callerA)
    (F : ∀ base : Heap, K.In base → base.Ns mainGlobals mg → TabB base mg c T → FnG P w K mg base CX0 k fa fd [x] sp) (hbind : ∀ (s : Shared) (u : Value), BindsTo s fd ⟨[u], []⟩ [(x, u)])
    (hsp : ∀ H : Hp, H T = some (.tbl #[]) → SqL K H a (ns.map V.int) → sp [.ref a] H (fun v _ => v = .bl true) fun _ _ _ => False) :
    codeAny (model P w) callerA (.call (.ref fa) ⟨[.ref a], []⟩) (fun r s' => r = .ok (.ret (.bool true)) ∧ OldK s1.heap s'.heap ∧ s'.os = s1.os ∧ AllBare s'.gens) s1 := by
  have rv := vals_ints hi
  have lenV := hi.length
  have aT : a ≠ T := fun z => by
    rw [z, hT] at ha
    cases ha
  have core : ∀ H : Hp, H T = some (.tbl #[]) → SqL K H a (ns.map V.int) → HOk P w H s1.heap → (∀ b, b ≠ a → b ≠ T → H b = none) → (H a = none ∨ ∃ o xs, H a = some (.frz o (.lst xs))) → (H a ≠ none → K.lookup a = none) →
      codeAny (model P w) callerA (.call (.ref fa) ⟨[.ref a], []⟩) (fun r s' => r = .ok (.ret (.bool true)) ∧ OldK s1.heap s'.heap ∧ s'.os = s1.os ∧ AllBare s'.gens) s1 := by
    intro H eT hS hok only froz notK
    have seen : ∀ {b : Addr} {o : Obj}, s1.heap.get? b = some o → (∀ xs n, o.data ≠ .seq xs n) → o.data ≠ .fields #[] → H b = none := fun {b o} e h1 h2 => by
      refine only b (fun z => ?_) fun z => ?_
      · rw [z, ha] at e
        cases e
        exact h1 _ _ rfl
      · rw [z, hT] at e
        cases e
        exact h2 rfl
    have noDict : ∀ {b : Addr} {o : Obj} {es : Array DictEntry} {ep : Nat}, s1.heap.get? b = some o → o.data = .dict es ep → H b = none := fun {b o es ep} e d =>
      seen e (fun xs n z => by rw [d] at z; cases z) fun z => by rw [d] at z; cases z
    have nsK : ∀ {b : Addr} {m : Str → Option Value}, s1.heap.Ns b m → (hidT s1.heap H).Ns b m := fun {b m} ⟨o, es, ep, e, d, r⟩ => ⟨o, es, ep, hidT_get e (noDict e d), d, r⟩
    have kin : K.In (hidT s1.heap H) := fun b o e => hidT_get (KX b o e) (by
      by_cases h1 : b = a
      · cases q : H b with
        | none => rfl
        | some u =>
          have z := notK (by rw [← h1, q]; simp)
          rw [← h1, e] at z
          cases z
      · refine only b h1 fun z => ?_
        rw [z, nT] at e
        cases e)
    obtain ⟨mc, c1, c2⟩ := hlim
    have hM : Mod K mg (hidT s1.heap H) := ⟨kin, nsK hns, ⟨mb, nsK hb, hbb⟩, ⟨mc, nsK c1, c2⟩⟩
    have TB : TabB (hidT s1.heap H) mg c T := by
      refine ⟨?_, ?_, fun z => ?_⟩
      · obtain ⟨o, us, y1, y2, y3, y4, y5, y6, y7, e1, z1, z2, z3, z4⟩ := hC
        refine ⟨o, us, y1, y2, y3, y4, y5, y6, y7, hidT_get e1 (seen e1 (fun xs n q => ?_) fun q => ?_), z1, z2, z3, z4⟩
        · rw [z2] at q
          cases q
        · rw [z2] at q
          cases q
          simp at z3
      · obtain ⟨bm, ob, b1, b2, b3, b4, b5, b6⟩ := hm
        refine ⟨bm, ob, b1, b2, fun q => ?_, fun q => ?_, hidT_get b3 (seen b3 (fun xs n q => ?_) fun q => ?_), b4, b5, b6⟩
        · obtain ⟨o, es, ep, e, d, _⟩ := hns
          rw [q, e] at b3
          cases b3
          rw [d] at b6
          cases b6
        · rw [q, hT] at b3
          cases b3
          cases b6
        · rw [b6] at q
          cases q
        · rw [b6] at q
          cases q
      · obtain ⟨o, es, ep, e, d, _⟩ := hns
        rw [z, hT] at e
        cases e
        cases d
    have noF : ∀ b, b ∉ frs [] := fun b z => absurd (show b ∈ ([] : List Addr) from z) (by simp)
    have e0 : Env0 P w K mg (hidT s1.heap H) callerA [] s1 H :=
      ⟨rfl, hM, fun b o e => of_hidT e, Nat.le_of_eq (hidT_size _ _), trivial, fun b z => absurd z (noF b), hok, .of_eq hg⟩
    refine codeAny_mono ((F _ kin (nsK hns) TB).run callerA [] s1 H ⟨[.ref a], []⟩ [.ref a] [.ref a] _ _ hr rfl e0 (hbind s1 (.ref a)) (.cons rfl .nil) (hsp H eT hS)) fun r s' h => ?_
    cases r with
    | error e => exact False.elim h
    | ok fl =>
      cases fl with
      | next => exact False.elim h
      | brk => exact False.elim h
      | cont => exact False.elim h
      | ret u =>
        obtain ⟨v, H', os, bare, un, hok', r', q⟩ := h
        obtain rfl : v = .bl true := q
        obtain rfl : u = Value.bool true := r'
        have kept : ∀ b o, b ≠ T → s1.heap.get? b = some o → s'.heap.get? b = some o := fun b o ne e => by
          by_cases h1 : b = a
          · rcases froz with z | ⟨ob, xs, z⟩
            · exact un.keep b o e (by rw [h1]; exact z) (noF b) (by simp)
            · rw [← h1] at z
              obtain ⟨e1, _⟩ := hok b _ z
              obtain ⟨e2, _⟩ := hok' b _ (un.frzs b ob _ z)
              rw [e] at e1
              cases e1
              exact e2
          · exact un.keep b o e (only b h1 ne) (noF b) (by simp)
        obtain ⟨more, z⟩ := un.tbls T #[] eT
        have grown : s'.heap.get? T = some { cls := .none, data := .fields (#[] ++ more) } := hok' T _ z
        refine ⟨rfl, ⟨fun b o e => ?_, fun b o e => ?_⟩, os, bare⟩
        · by_cases h1 : b = T
          · subst h1
            rw [hT] at e
            cases e
            exact .inr (.inl ⟨(hC.tab hT).isCodeTable, rfl, #[], more, rfl, grown⟩)
          · exact .inl (kept b o h1 e)
        · by_cases h1 : b = T
          · subst h1
            exact ⟨_, grown⟩
          · exact ⟨o, kept b o h1 e⟩
  have tblOk : ∀ H : Hp, ObjOk P w H s1.heap T (.tbl #[]) := fun H => hT
  cases hk : K.lookup a with
  | some o =>
    have e := KX a o hk
    rw [ha] at e
    cases e
    refine core (fun b => if b = T then some (.tbl #[]) else none) (if_pos rfl) (.inr ⟨_, vs.toArray, _, hk, rfl, rfl, rfl, ?_, by simpa using rv⟩) (fun b u z => ?_) (fun b _ h2 => if_neg h2) (.inl (if_neg aT)) fun z => absurd (if_neg aT) z
    · rw [List.size_toArray, lenV]
      exact hl
    · by_cases h1 : b = T
      · subst h1
        have z2 := (if_pos rfl).symm.trans z
        cases z2
        exact hT
      · exact nomatch (if_neg h1).symm.trans z
  | none =>
    refine core (fun b => if b = T then some (.tbl #[]) else if b = a then some (.frz { cls := .type "list", data := .seq vs.toArray } (.lst (ns.map V.int))) else none) (if_pos rfl)
      (.inl (.inr ⟨{ cls := .type "list", data := .seq vs.toArray }, (if_neg aT).trans (if_pos rfl)⟩)) (fun b u z => ?_) (fun b h1 h2 => (if_neg h2).trans (if_neg h1)) (.inr ⟨_, _, (if_neg aT).trans (if_pos rfl)⟩) fun _ => hk
    by_cases h1 : b = T
    · subst h1
      have z2 := (if_pos rfl).symm.trans z
      cases z2
      exact hT
    · have z1 := (if_neg h1).symm.trans z
      by_cases h2 : b = a
      · subst h2
        have z2 := (if_pos rfl).symm.trans z1
        cases z2
        exact ⟨ha, by rw [List.length_map]; exact hl, vs, _, rv, ha⟩
      · exact nomatch (if_neg h2).symm.trans z1
theorem walk_T {l : PySem.W.OpenLaw} {n k : Nat} {q : Program} {loose : List Str} {XP : (Str → Option Value) → Heap → Prop} {YP : World → Heap → Prop} {d : DefRec} {K : Params → PySem.W.Frag} {ts : List Addr} {sp : PySem.W.Frag → Addr → Sp} {x : Str}
    (hn : l.most = some n) (hn2 : n ≤ sizeLine) (hdf : d.params.defaults = []) (hr : Room k callerA) (hY : ∀ (w : World) (h : Heap), YP w h → (K w.params).In h ∧ ∀ P ∈ ts, h.get? P = some (PySem.W.tabObj #[]))
    (F : ∀ (w : World) (mg : Str → Option Value) (fa : Addr) (h : Heap), (K w.params).In h → h.Ns mainGlobals mg → mg d.name = some (.ref fa) →
      ∃ (fd : FuncData) (c T : Addr), PySem.W.codeHdIn (K w.params) c T = true ∧ T ∈ ts ∧ (K w.params).lookup T = none ∧ (∀ (s : Shared) (u : Value), BindsTo s fd ⟨[u], []⟩ [(x, u)]) ∧
        ∀ base : Heap, (K w.params).In base → base.Ns mainGlobals mg → TabB base mg c T → FnG l.prog w (K w.params) mg base CX0 k fa fd [x] (sp (K w.params) T))
    (hsp : ∀ (K : PySem.W.Frag) (H : Hp) (a T : Addr) (ns : List Int), ns.length ≤ n → H T = some (.tbl #[]) → SqL K H a (ns.map V.int) → sp K T [.ref a] H (fun v _ => v = .bl true) fun _ _ _ => False) :
    PySem.W.WalkO q loose XP YP l.row.toRowW d [] (fun f vs => PySem.call f vs) := by
  refine Att.attach_call hn hdf fun w s0 s1 mg mb fa o pm cd doc a vs ns G Y ho hd hcd hmg hobj hints hlen hg => ?_
  obtain ⟨KX, hT⟩ := hY w _ Y
  obtain ⟨fd, c, T, hC, mT, nT, hb, hF⟩ := F w mg fa _ KX G.T.g hmg
  exact law_callT KX G.T.g G.T.b G.T.builtins G.T.nolimit hg (hT T mT) nT (PySem.W.codeHd_of_K KX hC) G.T.bmain hobj hints (Nat.le_trans hlen hn2) hr hF hb fun H hH hS => hsp _ H a T ns hlen hH hS
end EV
end L2

set_option Elab.async false
set_option linter.all false
set_option maxRecDepth 100000
set_option maxHeartbeats 8000000
/-! What the top has written. -/
namespace K34
open PySem L2 L2.EV LamX PySem.Spec PyProof.Rows
theorem oxc {K : PySem.W.Frag} {C N : Addr} {nm q : Str} {bs : List Value} {sn : List Str} {sub : List Value} {ab : Bool} {col : Option Bool} {dd : Option Addr} {k0 k1 k2 k3 k5 : Option Value} {B newId initId : String} {bm : List Value}
    (cl : K.lookup C = some (excClassObj nm q C N bs bm true sn sub ab col dd k0 k1 k2 k3 k5 newId)) (F : ExcBaseFacts B newId initId bm) (pas : ∀ self, refuseLoop self "__setattr__" bm = pure ()) (obj : bm.contains (.type "object") = true)
    (sa : PySem.W.findIn K (.ref C) "__setattr__" = some (some (.builtin "object.__setattr__"))) (ga : PySem.W.findIn K (.ref C) "__getattribute__" = some (some (.builtin "BaseException.__getattribute__")))
    (gg : PySem.W.findIn K (.ref C) "__getattr__" = some none) (exC : PySem.W.subIn K (.ref C) (.type "BaseException") = some true) (kC : PySem.W.keepIn K (.ref C) = true) (hd : PySem.W.hasDictIn K C = true)
    (ca : PySem.W.findIn K (.ref C) "__class__" = some (some (.builtin "object.__class__"))) (cn : PySem.W.specialIn K (.builtin "object.__class__") "__get__" = some (some (.builtin "getset_descriptor.__get__")))
    (ct : PySem.W.takesIn K (.builtin "object.__class__") = some true) (om : PySem.W.mroIn K C (.type "object") = some true) : OxC K C B newId initId bm :=
  ⟨F, ⟨nm, q, N, bs, sn, sub, ab, col, dd, k0, k1, k2, k3, k5, cl⟩, pas, obj, sa, ga, gg, exC, kC, hd, ca, cn, ct, om⟩
theorem all_mk {P : Program} {w : World} {K : PySem.W.Frag} {h : Heap} {mg : Str → Option Value} {fa ccl Tla f_ini C D1 D2 D3 D4 D5 D6 D7 f_iN f_iP f_iS f_iL f_iW f_iJ f_iF f_cNeedWeaving f_cFileOf f_cReadLines f_cRestOf f_cIsWholeLine f_cStands f_cNeedScore f_cCount f_cCountClean f_cWeavingAt f_cWeavingNumber f_cIsClean f_cNeedTurned f_cFiles f_cFates f_cCheckedTraces f_cPossible f_cVerdicts f_cExplained f_lU f_lO f_lB f_lN f_rf f_la : Addr}
    {od_iN an_iN : Option Addr} {sl_iN : Array (Option Value)} {oc_iN kV_iN dc_iN pm_iN cd_iN ct_iN : Value}
    {od_iP an_iP : Option Addr} {sl_iP : Array (Option Value)} {oc_iP kV_iP dc_iP pm_iP cd_iP ct_iP : Value}
    {od_iS an_iS : Option Addr} {sl_iS : Array (Option Value)} {oc_iS kV_iS dc_iS pm_iS cd_iS ct_iS : Value}
    {od_iL an_iL : Option Addr} {sl_iL : Array (Option Value)} {oc_iL kV_iL dc_iL pm_iL cd_iL ct_iL : Value}
    {od_iW an_iW : Option Addr} {sl_iW : Array (Option Value)} {oc_iW kV_iW dc_iW pm_iW cd_iW ct_iW : Value}
    {od_iJ an_iJ : Option Addr} {sl_iJ : Array (Option Value)} {oc_iJ kV_iJ dc_iJ pm_iJ cd_iJ ct_iJ : Value}
    {od_iF an_iF : Option Addr} {sl_iF : Array (Option Value)} {oc_iF kV_iF dc_iF pm_iF cd_iF ct_iF : Value}
    {od_cNeedWeaving an_cNeedWeaving : Option Addr} {sl_cNeedWeaving : Array (Option Value)} {oc_cNeedWeaving kV_cNeedWeaving dc_cNeedWeaving pm_cNeedWeaving cd_cNeedWeaving ct_cNeedWeaving : Value}
    {od_cFileOf an_cFileOf : Option Addr} {sl_cFileOf : Array (Option Value)} {oc_cFileOf kV_cFileOf dc_cFileOf pm_cFileOf cd_cFileOf ct_cFileOf : Value}
    {od_cReadLines an_cReadLines : Option Addr} {sl_cReadLines : Array (Option Value)} {oc_cReadLines kV_cReadLines dc_cReadLines pm_cReadLines cd_cReadLines ct_cReadLines : Value}
    {od_cRestOf an_cRestOf : Option Addr} {sl_cRestOf : Array (Option Value)} {oc_cRestOf kV_cRestOf dc_cRestOf pm_cRestOf cd_cRestOf ct_cRestOf : Value}
    {od_cIsWholeLine an_cIsWholeLine : Option Addr} {sl_cIsWholeLine : Array (Option Value)} {oc_cIsWholeLine kV_cIsWholeLine dc_cIsWholeLine pm_cIsWholeLine cd_cIsWholeLine ct_cIsWholeLine : Value}
    {od_cStands an_cStands : Option Addr} {sl_cStands : Array (Option Value)} {oc_cStands kV_cStands dc_cStands pm_cStands cd_cStands ct_cStands : Value}
    {od_cNeedScore an_cNeedScore : Option Addr} {sl_cNeedScore : Array (Option Value)} {oc_cNeedScore kV_cNeedScore dc_cNeedScore pm_cNeedScore cd_cNeedScore ct_cNeedScore : Value}
    {od_cCount an_cCount : Option Addr} {sl_cCount : Array (Option Value)} {oc_cCount kV_cCount dc_cCount pm_cCount cd_cCount ct_cCount : Value}
    {od_cCountClean an_cCountClean : Option Addr} {sl_cCountClean : Array (Option Value)} {oc_cCountClean kV_cCountClean dc_cCountClean pm_cCountClean cd_cCountClean ct_cCountClean : Value}
    {od_cWeavingAt an_cWeavingAt : Option Addr} {sl_cWeavingAt : Array (Option Value)} {oc_cWeavingAt kV_cWeavingAt dc_cWeavingAt pm_cWeavingAt cd_cWeavingAt ct_cWeavingAt : Value}
    {od_cWeavingNumber an_cWeavingNumber : Option Addr} {sl_cWeavingNumber : Array (Option Value)} {oc_cWeavingNumber kV_cWeavingNumber dc_cWeavingNumber pm_cWeavingNumber cd_cWeavingNumber ct_cWeavingNumber : Value}
    {od_cIsClean an_cIsClean : Option Addr} {sl_cIsClean : Array (Option Value)} {oc_cIsClean kV_cIsClean dc_cIsClean pm_cIsClean cd_cIsClean ct_cIsClean : Value}
    {od_cNeedTurned an_cNeedTurned : Option Addr} {sl_cNeedTurned : Array (Option Value)} {oc_cNeedTurned kV_cNeedTurned dc_cNeedTurned pm_cNeedTurned cd_cNeedTurned ct_cNeedTurned : Value}
    {od_cFiles an_cFiles : Option Addr} {sl_cFiles : Array (Option Value)} {oc_cFiles kV_cFiles dc_cFiles pm_cFiles cd_cFiles ct_cFiles : Value}
    {od_cFates an_cFates : Option Addr} {sl_cFates : Array (Option Value)} {oc_cFates kV_cFates dc_cFates pm_cFates cd_cFates ct_cFates : Value}
    {od_cCheckedTraces an_cCheckedTraces : Option Addr} {sl_cCheckedTraces : Array (Option Value)} {oc_cCheckedTraces kV_cCheckedTraces dc_cCheckedTraces pm_cCheckedTraces cd_cCheckedTraces ct_cCheckedTraces : Value}
    {od_cPossible an_cPossible : Option Addr} {sl_cPossible : Array (Option Value)} {oc_cPossible kV_cPossible dc_cPossible pm_cPossible cd_cPossible ct_cPossible : Value}
    {od_cVerdicts an_cVerdicts : Option Addr} {sl_cVerdicts : Array (Option Value)} {oc_cVerdicts kV_cVerdicts dc_cVerdicts pm_cVerdicts cd_cVerdicts ct_cVerdicts : Value}
    {od_cExplained an_cExplained : Option Addr} {sl_cExplained : Array (Option Value)} {oc_cExplained kV_cExplained dc_cExplained pm_cExplained cd_cExplained ct_cExplained : Value}
    {od_lU an_lU : Option Addr} {sl_lU : Array (Option Value)} {oc_lU kV_lU dc_lU pm_lU cd_lU ct_lU : Value}
    {od_lO an_lO : Option Addr} {sl_lO : Array (Option Value)} {oc_lO kV_lO dc_lO pm_lO cd_lO ct_lO : Value}
    {od_lB an_lB : Option Addr} {sl_lB : Array (Option Value)} {oc_lB kV_lB dc_lB pm_lB cd_lB ct_lB : Value}
    {od_lN an_lN : Option Addr} {sl_lN : Array (Option Value)} {oc_lN kV_lN dc_lN pm_lN cd_lN ct_lN : Value}
    {od_rf an_rf : Option Addr} {sl_rf : Array (Option Value)} {oc_rf kV_rf dc_rf pm_rf ct_rf : Value}
    {od_la an_la : Option Addr} {sl_la : Array (Option Value)} {oc_la kV_la dc_la pm_la cd_la ct_la : Value}
    {od_ini an_ini : Option Addr} {sl_ini : Array (Option Value)} {oc_ini kV_ini dc_ini pm_ini cd_ini ct_ini : Value}
    {t_vS : Tok}
    {t_vM : Tok}
    {t_vT : Tok}
    {t_vD : Tok}
    (X : K.In h) (G : h.Ns mainGlobals mg) (hfa : mg "law" = some (.ref fa))
    (a_iN : PySem.W.nsIn K mainGlobals "is_number" = some (some (.ref f_iN)))
    (l_iN : K.lookup f_iN = some ⟨oc_iN, od_iN, .func (PySem.W.fnOf "is_number" "is_number" (defArgs sNum) (defBody sNum) (defScope sNum) .none kV_iN dc_iN pm_iN an_iN cd_iN ct_iN), sl_iN⟩) (c_iN : PySem.W.codeIn K cd_iN "is_number" = true) (k_iN : PySem.W.keepIn K (.ref f_iN) = true)
    (a_iP : PySem.W.nsIn K mainGlobals "is_piece" = some (some (.ref f_iP)))
    (l_iP : K.lookup f_iP = some ⟨oc_iP, od_iP, .func (PySem.W.fnOf "is_piece" "is_piece" (defArgs sPc) (defBody sPc) (defScope sPc) .none kV_iP dc_iP pm_iP an_iP cd_iP ct_iP), sl_iP⟩) (c_iP : PySem.W.codeIn K cd_iP "is_piece" = true) (k_iP : PySem.W.keepIn K (.ref f_iP) = true)
    (a_iS : PySem.W.nsIn K mainGlobals "is_step" = some (some (.ref f_iS)))
    (l_iS : K.lookup f_iS = some ⟨oc_iS, od_iS, .func (PySem.W.fnOf "is_step" "is_step" (defArgs sStep) (defBody sStep) (defScope sStep) .none kV_iS dc_iS pm_iS an_iS cd_iS ct_iS), sl_iS⟩) (c_iS : PySem.W.codeIn K cd_iS "is_step" = true) (k_iS : PySem.W.keepIn K (.ref f_iS) = true)
    (a_iL : PySem.W.nsIn K mainGlobals "listed_standings" = some (some (.ref f_iL)))
    (l_iL : K.lookup f_iL = some ⟨oc_iL, od_iL, .func (PySem.W.fnOf "listed_standings" "listed_standings" (defArgs sListed) (defBody sListed) (defScope sListed) .none kV_iL dc_iL pm_iL an_iL cd_iL ct_iL), sl_iL⟩) (c_iL : PySem.W.codeIn K cd_iL "listed_standings" = true) (k_iL : PySem.W.keepIn K (.ref f_iL) = true)
    (a_iW : PySem.W.nsIn K mainGlobals "ways_from" = some (some (.ref f_iW)))
    (l_iW : K.lookup f_iW = some ⟨oc_iW, od_iW, .func (PySem.W.fnOf "ways_from" "ways_from" (defArgs sWays) (defBody sWays) (defScope sWays) .none kV_iW dc_iW pm_iW an_iW cd_iW ct_iW), sl_iW⟩) (c_iW : PySem.W.codeIn K cd_iW "ways_from" = true) (k_iW : PySem.W.keepIn K (.ref f_iW) = true)
    (a_iJ : PySem.W.nsIn K mainGlobals "is_joined" = some (some (.ref f_iJ)))
    (l_iJ : K.lookup f_iJ = some ⟨oc_iJ, od_iJ, .func (PySem.W.fnOf "is_joined" "is_joined" (defArgs sJoined) (defBody sJoined) (defScope sJoined) .none kV_iJ dc_iJ pm_iJ an_iJ cd_iJ ct_iJ), sl_iJ⟩) (c_iJ : PySem.W.codeIn K cd_iJ "is_joined" = true) (k_iJ : PySem.W.keepIn K (.ref f_iJ) = true)
    (a_iF : PySem.W.nsIn K mainGlobals "need_framing" = some (some (.ref f_iF)))
    (l_iF : K.lookup f_iF = some ⟨oc_iF, od_iF, .func (PySem.W.fnOf "need_framing" "need_framing" (defArgs sNeedF) (defBody sNeedF) (defScope sNeedF) .none kV_iF dc_iF pm_iF an_iF cd_iF ct_iF), sl_iF⟩) (c_iF : PySem.W.codeIn K cd_iF "need_framing" = true) (k_iF : PySem.W.keepIn K (.ref f_iF) = true)
    (a_cNeedWeaving : PySem.W.nsIn K mainGlobals "need_weaving" = some (some (.ref f_cNeedWeaving)))
    (l_cNeedWeaving : K.lookup f_cNeedWeaving = some ⟨oc_cNeedWeaving, od_cNeedWeaving, .func (PySem.W.fnOf "need_weaving" "need_weaving" (defArgs sNeedWeaving) (defBody sNeedWeaving) (defScope sNeedWeaving) .none kV_cNeedWeaving dc_cNeedWeaving pm_cNeedWeaving an_cNeedWeaving cd_cNeedWeaving ct_cNeedWeaving), sl_cNeedWeaving⟩) (c_cNeedWeaving : PySem.W.codeIn K cd_cNeedWeaving "need_weaving" = true) (k_cNeedWeaving : PySem.W.keepIn K (.ref f_cNeedWeaving) = true)
    (a_cFileOf : PySem.W.nsIn K mainGlobals "file_of" = some (some (.ref f_cFileOf)))
    (l_cFileOf : K.lookup f_cFileOf = some ⟨oc_cFileOf, od_cFileOf, .func (PySem.W.fnOf "file_of" "file_of" (defArgs sFileOf) (defBody sFileOf) (defScope sFileOf) .none kV_cFileOf dc_cFileOf pm_cFileOf an_cFileOf cd_cFileOf ct_cFileOf), sl_cFileOf⟩) (c_cFileOf : PySem.W.codeIn K cd_cFileOf "file_of" = true) (k_cFileOf : PySem.W.keepIn K (.ref f_cFileOf) = true)
    (a_cReadLines : PySem.W.nsIn K mainGlobals "read_lines" = some (some (.ref f_cReadLines)))
    (l_cReadLines : K.lookup f_cReadLines = some ⟨oc_cReadLines, od_cReadLines, .func (PySem.W.fnOf "read_lines" "read_lines" (defArgs sReadLines) (defBody sReadLines) (defScope sReadLines) .none kV_cReadLines dc_cReadLines pm_cReadLines an_cReadLines cd_cReadLines ct_cReadLines), sl_cReadLines⟩) (c_cReadLines : PySem.W.codeIn K cd_cReadLines "read_lines" = true) (k_cReadLines : PySem.W.keepIn K (.ref f_cReadLines) = true)
    (a_cRestOf : PySem.W.nsIn K mainGlobals "rest_of" = some (some (.ref f_cRestOf)))
    (l_cRestOf : K.lookup f_cRestOf = some ⟨oc_cRestOf, od_cRestOf, .func (PySem.W.fnOf "rest_of" "rest_of" (defArgs sRestOf) (defBody sRestOf) (defScope sRestOf) .none kV_cRestOf dc_cRestOf pm_cRestOf an_cRestOf cd_cRestOf ct_cRestOf), sl_cRestOf⟩) (c_cRestOf : PySem.W.codeIn K cd_cRestOf "rest_of" = true) (k_cRestOf : PySem.W.keepIn K (.ref f_cRestOf) = true)
    (a_cIsWholeLine : PySem.W.nsIn K mainGlobals "is_whole_line" = some (some (.ref f_cIsWholeLine)))
    (l_cIsWholeLine : K.lookup f_cIsWholeLine = some ⟨oc_cIsWholeLine, od_cIsWholeLine, .func (PySem.W.fnOf "is_whole_line" "is_whole_line" (defArgs sIsWholeLine) (defBody sIsWholeLine) (defScope sIsWholeLine) .none kV_cIsWholeLine dc_cIsWholeLine pm_cIsWholeLine an_cIsWholeLine cd_cIsWholeLine ct_cIsWholeLine), sl_cIsWholeLine⟩) (c_cIsWholeLine : PySem.W.codeIn K cd_cIsWholeLine "is_whole_line" = true) (k_cIsWholeLine : PySem.W.keepIn K (.ref f_cIsWholeLine) = true)
    (a_cStands : PySem.W.nsIn K mainGlobals "stands" = some (some (.ref f_cStands)))
    (l_cStands : K.lookup f_cStands = some ⟨oc_cStands, od_cStands, .func (PySem.W.fnOf "stands" "stands" (defArgs sStands) (defBody sStands) (defScope sStands) .none kV_cStands dc_cStands pm_cStands an_cStands cd_cStands ct_cStands), sl_cStands⟩) (c_cStands : PySem.W.codeIn K cd_cStands "stands" = true) (k_cStands : PySem.W.keepIn K (.ref f_cStands) = true)
    (a_cNeedScore : PySem.W.nsIn K mainGlobals "need_score" = some (some (.ref f_cNeedScore)))
    (l_cNeedScore : K.lookup f_cNeedScore = some ⟨oc_cNeedScore, od_cNeedScore, .func (PySem.W.fnOf "need_score" "need_score" (defArgs sNeedScore) (defBody sNeedScore) (defScope sNeedScore) .none kV_cNeedScore dc_cNeedScore pm_cNeedScore an_cNeedScore cd_cNeedScore ct_cNeedScore), sl_cNeedScore⟩) (c_cNeedScore : PySem.W.codeIn K cd_cNeedScore "need_score" = true) (k_cNeedScore : PySem.W.keepIn K (.ref f_cNeedScore) = true)
    (a_cCount : PySem.W.nsIn K mainGlobals "count" = some (some (.ref f_cCount)))
    (l_cCount : K.lookup f_cCount = some ⟨oc_cCount, od_cCount, .func (PySem.W.fnOf "count" "count" (defArgs sCount) (defBody sCount) (defScope sCount) .none kV_cCount dc_cCount pm_cCount an_cCount cd_cCount ct_cCount), sl_cCount⟩) (c_cCount : PySem.W.codeIn K cd_cCount "count" = true) (k_cCount : PySem.W.keepIn K (.ref f_cCount) = true)
    (a_cCountClean : PySem.W.nsIn K mainGlobals "count_clean" = some (some (.ref f_cCountClean)))
    (l_cCountClean : K.lookup f_cCountClean = some ⟨oc_cCountClean, od_cCountClean, .func (PySem.W.fnOf "count_clean" "count_clean" (defArgs sCountClean) (defBody sCountClean) (defScope sCountClean) .none kV_cCountClean dc_cCountClean pm_cCountClean an_cCountClean cd_cCountClean ct_cCountClean), sl_cCountClean⟩) (c_cCountClean : PySem.W.codeIn K cd_cCountClean "count_clean" = true) (k_cCountClean : PySem.W.keepIn K (.ref f_cCountClean) = true)
    (a_cWeavingAt : PySem.W.nsIn K mainGlobals "weaving_at" = some (some (.ref f_cWeavingAt)))
    (l_cWeavingAt : K.lookup f_cWeavingAt = some ⟨oc_cWeavingAt, od_cWeavingAt, .func (PySem.W.fnOf "weaving_at" "weaving_at" (defArgs sWeavingAt) (defBody sWeavingAt) (defScope sWeavingAt) .none kV_cWeavingAt dc_cWeavingAt pm_cWeavingAt an_cWeavingAt cd_cWeavingAt ct_cWeavingAt), sl_cWeavingAt⟩) (c_cWeavingAt : PySem.W.codeIn K cd_cWeavingAt "weaving_at" = true) (k_cWeavingAt : PySem.W.keepIn K (.ref f_cWeavingAt) = true)
    (a_cWeavingNumber : PySem.W.nsIn K mainGlobals "weaving_number" = some (some (.ref f_cWeavingNumber)))
    (l_cWeavingNumber : K.lookup f_cWeavingNumber = some ⟨oc_cWeavingNumber, od_cWeavingNumber, .func (PySem.W.fnOf "weaving_number" "weaving_number" (defArgs sWeavingNumber) (defBody sWeavingNumber) (defScope sWeavingNumber) .none kV_cWeavingNumber dc_cWeavingNumber pm_cWeavingNumber an_cWeavingNumber cd_cWeavingNumber ct_cWeavingNumber), sl_cWeavingNumber⟩) (c_cWeavingNumber : PySem.W.codeIn K cd_cWeavingNumber "weaving_number" = true) (k_cWeavingNumber : PySem.W.keepIn K (.ref f_cWeavingNumber) = true)
    (a_cIsClean : PySem.W.nsIn K mainGlobals "is_clean" = some (some (.ref f_cIsClean)))
    (l_cIsClean : K.lookup f_cIsClean = some ⟨oc_cIsClean, od_cIsClean, .func (PySem.W.fnOf "is_clean" "is_clean" (defArgs sIsClean) (defBody sIsClean) (defScope sIsClean) .none kV_cIsClean dc_cIsClean pm_cIsClean an_cIsClean cd_cIsClean ct_cIsClean), sl_cIsClean⟩) (c_cIsClean : PySem.W.codeIn K cd_cIsClean "is_clean" = true) (k_cIsClean : PySem.W.keepIn K (.ref f_cIsClean) = true)
    (a_cNeedTurned : PySem.W.nsIn K mainGlobals "need_turned" = some (some (.ref f_cNeedTurned)))
    (l_cNeedTurned : K.lookup f_cNeedTurned = some ⟨oc_cNeedTurned, od_cNeedTurned, .func (PySem.W.fnOf "need_turned" "need_turned" (defArgs sNeedTurned) (defBody sNeedTurned) (defScope sNeedTurned) .none kV_cNeedTurned dc_cNeedTurned pm_cNeedTurned an_cNeedTurned cd_cNeedTurned ct_cNeedTurned), sl_cNeedTurned⟩) (c_cNeedTurned : PySem.W.codeIn K cd_cNeedTurned "need_turned" = true) (k_cNeedTurned : PySem.W.keepIn K (.ref f_cNeedTurned) = true)
    (a_cFiles : PySem.W.nsIn K mainGlobals "files" = some (some (.ref f_cFiles)))
    (l_cFiles : K.lookup f_cFiles = some ⟨oc_cFiles, od_cFiles, .func (PySem.W.fnOf "files" "files" (defArgs sFiles) (defBody sFiles) (defScope sFiles) .none kV_cFiles dc_cFiles pm_cFiles an_cFiles cd_cFiles ct_cFiles), sl_cFiles⟩) (c_cFiles : PySem.W.codeIn K cd_cFiles "files" = true) (k_cFiles : PySem.W.keepIn K (.ref f_cFiles) = true)
    (a_cFates : PySem.W.nsIn K mainGlobals "fates" = some (some (.ref f_cFates)))
    (l_cFates : K.lookup f_cFates = some ⟨oc_cFates, od_cFates, .func (PySem.W.fnOf "fates" "fates" (defArgs sFates) (defBody sFates) (defScope sFates) .none kV_cFates dc_cFates pm_cFates an_cFates cd_cFates ct_cFates), sl_cFates⟩) (c_cFates : PySem.W.codeIn K cd_cFates "fates" = true) (k_cFates : PySem.W.keepIn K (.ref f_cFates) = true)
    (a_cCheckedTraces : PySem.W.nsIn K mainGlobals "checked_traces" = some (some (.ref f_cCheckedTraces)))
    (l_cCheckedTraces : K.lookup f_cCheckedTraces = some ⟨oc_cCheckedTraces, od_cCheckedTraces, .func (PySem.W.fnOf "checked_traces" "checked_traces" (defArgs sCheckedTraces) (defBody sCheckedTraces) (defScope sCheckedTraces) .none kV_cCheckedTraces dc_cCheckedTraces pm_cCheckedTraces an_cCheckedTraces cd_cCheckedTraces ct_cCheckedTraces), sl_cCheckedTraces⟩) (c_cCheckedTraces : PySem.W.codeIn K cd_cCheckedTraces "checked_traces" = true) (k_cCheckedTraces : PySem.W.keepIn K (.ref f_cCheckedTraces) = true)
    (a_cPossible : PySem.W.nsIn K mainGlobals "possible" = some (some (.ref f_cPossible)))
    (l_cPossible : K.lookup f_cPossible = some ⟨oc_cPossible, od_cPossible, .func (PySem.W.fnOf "possible" "possible" (defArgs sPossible) (defBody sPossible) (defScope sPossible) .none kV_cPossible dc_cPossible pm_cPossible an_cPossible cd_cPossible ct_cPossible), sl_cPossible⟩) (c_cPossible : PySem.W.codeIn K cd_cPossible "possible" = true) (k_cPossible : PySem.W.keepIn K (.ref f_cPossible) = true)
    (a_cVerdicts : PySem.W.nsIn K mainGlobals "verdicts" = some (some (.ref f_cVerdicts)))
    (l_cVerdicts : K.lookup f_cVerdicts = some ⟨oc_cVerdicts, od_cVerdicts, .func (PySem.W.fnOf "verdicts" "verdicts" (defArgs sVerdicts) (defBody sVerdicts) (defScope sVerdicts) .none kV_cVerdicts dc_cVerdicts pm_cVerdicts an_cVerdicts cd_cVerdicts ct_cVerdicts), sl_cVerdicts⟩) (c_cVerdicts : PySem.W.codeIn K cd_cVerdicts "verdicts" = true) (k_cVerdicts : PySem.W.keepIn K (.ref f_cVerdicts) = true)
    (a_cExplained : PySem.W.nsIn K mainGlobals "explained" = some (some (.ref f_cExplained)))
    (l_cExplained : K.lookup f_cExplained = some ⟨oc_cExplained, od_cExplained, .func (PySem.W.fnOf "explained" "explained" (defArgs sExplained) (defBody sExplained) (defScope sExplained) .none kV_cExplained dc_cExplained pm_cExplained an_cExplained cd_cExplained ct_cExplained), sl_cExplained⟩) (c_cExplained : PySem.W.codeIn K cd_cExplained "explained" = true) (k_cExplained : PySem.W.keepIn K (.ref f_cExplained) = true)
    (a_lU : PySem.W.nsIn K mainGlobals "_law_fault" = some (some (.ref f_lU)))
    (l_lU : K.lookup f_lU = some ⟨oc_lU, od_lU, .func (PySem.W.fnOf "_law_fault" "_law_fault" (defArgs sFault) (defBody sFault) (defScope sFault) .none kV_lU dc_lU pm_lU an_lU cd_lU ct_lU), sl_lU⟩) (c_lU : PySem.W.codeIn K cd_lU "_law_fault" = true) (k_lU : PySem.W.keepIn K (.ref f_lU) = true)
    (a_lO : PySem.W.nsIn K mainGlobals "_law_outcome" = some (some (.ref f_lO)))
    (l_lO : K.lookup f_lO = some ⟨oc_lO, od_lO, .func (PySem.W.fnOf "_law_outcome" "_law_outcome" (defArgs sOutcome) (defBody sOutcome) (defScope sOutcome) .none kV_lO dc_lO pm_lO an_lO cd_lO ct_lO), sl_lO⟩) (c_lO : PySem.W.codeIn K cd_lO "_law_outcome" = true) (k_lO : PySem.W.keepIn K (.ref f_lO) = true)
    (a_lB : PySem.W.nsIn K mainGlobals "_law_begun" = some (some (.ref f_lB)))
    (l_lB : K.lookup f_lB = some ⟨oc_lB, od_lB, .func (PySem.W.fnOf "_law_begun" "_law_begun" (defArgs sBegun) (defBody sBegun) (defScope sBegun) .none kV_lB dc_lB pm_lB an_lB cd_lB ct_lB), sl_lB⟩) (c_lB : PySem.W.codeIn K cd_lB "_law_begun" = true) (k_lB : PySem.W.keepIn K (.ref f_lB) = true)
    (a_lN : PySem.W.nsIn K mainGlobals "_law_next" = some (some (.ref f_lN)))
    (l_lN : K.lookup f_lN = some ⟨oc_lN, od_lN, .func (PySem.W.fnOf "_law_next" "_law_next" (defArgs sNext) (defBody sNext) (defScope sNext) .none kV_lN dc_lN pm_lN an_lN cd_lN ct_lN), sl_lN⟩) (c_lN : PySem.W.codeIn K cd_lN "_law_next" = true) (k_lN : PySem.W.keepIn K (.ref f_lN) = true)
    (a_rf : PySem.W.nsIn K mainGlobals "_law_refusals" = some (some (.ref f_rf)))
    (l_rf : K.lookup f_rf = some ⟨oc_rf, od_rf, .func (PySem.W.fnOf "_law_refusals" "_law_refusals" (defArgs sRef) (defBody sRef) (defScope sRef) .none kV_rf dc_rf pm_rf an_rf (.ref ccl) ct_rf), sl_rf⟩) (c_rf : PySem.W.codeIn K (.ref ccl) "_law_refusals" = true) (k_rf : PySem.W.keepIn K (.ref f_rf) = true)
    (a_la : PySem.W.nsIn K mainGlobals "law" = some (some (.ref f_la)))
    (l_la : K.lookup f_la = some ⟨oc_la, od_la, .func (PySem.W.fnOf "law" "law" (defArgs sLaw) (defBody sLaw) (defScope sLaw) .none kV_la dc_la pm_la an_la cd_la ct_la), sl_la⟩) (c_la : PySem.W.codeIn K cd_la "law" = true) (k_la : PySem.W.keepIn K (.ref f_la) = true)
    {ts : List Addr} (mT : Tla ∈ ts) (tb : PySem.W.codeHdIn K ccl Tla = true) (nT : K.lookup Tla = none)
    (aC : PySem.W.nsIn K mainGlobals "BadFraming" = some (some (.ref C)))
    (aD1 : PySem.W.nsIn K mainGlobals "BadReader" = some (some (.ref D1)))
    (aD2 : PySem.W.nsIn K mainGlobals "BadWeaving" = some (some (.ref D2)))
    (aD3 : PySem.W.nsIn K mainGlobals "BadText" = some (some (.ref D3)))
    (aD4 : PySem.W.nsIn K mainGlobals "OutOfPlace" = some (some (.ref D4)))
    (aD5 : PySem.W.nsIn K mainGlobals "TooGreat" = some (some (.ref D5)))
    (aD6 : PySem.W.nsIn K mainGlobals "Nothing" = some (some (.ref D6)))
    (aD7 : PySem.W.nsIn K mainGlobals "Held" = some (some (.ref D7)))
    (OX : OxC K C "ValueError" "ValueError.__new__" "ValueError.__init__" [.type "ValueError", .type "Exception", .type "BaseException", .type "object"])
    (iC : PySem.W.findIn K (.ref C) "__init__" = some (some (.ref f_ini))) (tI : PySem.W.typeIn K (.ref f_ini) = some (.type "function")) (n0 : PySem.W.findIn K (.ref C) "number" = some none)
    (l_ini : K.lookup f_ini = some ⟨oc_ini, od_ini, .func (PySem.W.fnOf "__init__" "BadFraming.__init__" (defArgs sBadFraming) (defBody sBadFraming) (defScope sBadFraming) .none kV_ini dc_ini pm_ini an_ini cd_ini ct_ini), sl_ini⟩) (c_ini : PySem.W.codeIn K cd_ini "BadFraming.__init__" = true) (k_ini : PySem.W.keepIn K (.ref f_ini) = true)
    (suC : PySem.W.subIn K (.ref C) (.type "BaseException") = some true) (hdC : PySem.W.hasDictIn K C = true) (tyC : PySem.W.typeIn K (.ref C) = some (.type "type")) (sbC : PySem.W.subIn K (.ref C) (.ref C) = some true)
    (suD1 : PySem.W.subIn K (.ref D1) (.type "BaseException") = some true) (hdD1 : PySem.W.hasDictIn K D1 = true) (tyD1 : PySem.W.typeIn K (.ref D1) = some (.type "type")) (sbD1 : PySem.W.subIn K (.ref C) (.ref D1) = some false)
    (suD2 : PySem.W.subIn K (.ref D2) (.type "BaseException") = some true) (hdD2 : PySem.W.hasDictIn K D2 = true) (tyD2 : PySem.W.typeIn K (.ref D2) = some (.type "type")) (sbD2 : PySem.W.subIn K (.ref C) (.ref D2) = some false)
    (suD3 : PySem.W.subIn K (.ref D3) (.type "BaseException") = some true) (hdD3 : PySem.W.hasDictIn K D3 = true) (tyD3 : PySem.W.typeIn K (.ref D3) = some (.type "type")) (sbD3 : PySem.W.subIn K (.ref C) (.ref D3) = some false)
    (suD4 : PySem.W.subIn K (.ref D4) (.type "BaseException") = some true) (hdD4 : PySem.W.hasDictIn K D4 = true) (tyD4 : PySem.W.typeIn K (.ref D4) = some (.type "type")) (sbD4 : PySem.W.subIn K (.ref C) (.ref D4) = some false)
    (suD5 : PySem.W.subIn K (.ref D5) (.type "BaseException") = some true) (hdD5 : PySem.W.hasDictIn K D5 = true) (tyD5 : PySem.W.typeIn K (.ref D5) = some (.type "type")) (sbD5 : PySem.W.subIn K (.ref C) (.ref D5) = some false)
    (suD6 : PySem.W.subIn K (.ref D6) (.type "BaseException") = some true) (hdD6 : PySem.W.hasDictIn K D6 = true) (tyD6 : PySem.W.typeIn K (.ref D6) = some (.type "type")) (sbD6 : PySem.W.subIn K (.ref C) (.ref D6) = some false)
    (suD7 : PySem.W.subIn K (.ref D7) (.type "BaseException") = some true) (hdD7 : PySem.W.hasDictIn K D7 = true) (tyD7 : PySem.W.typeIn K (.ref D7) = some (.type "type")) (sbD7 : PySem.W.subIn K (.ref C) (.ref D7) = some false)
    (g_vS : PySem.W.nsIn K mainGlobals "SIGNS" = some (some (.str "abcdefghijklmnopqrstuvwxyz0123456789@" t_vS)))
    (g_vM : PySem.W.nsIn K mainGlobals "MOST_SIGNS" = some (some (.int 8 t_vM)))
    (g_vT : PySem.W.nsIn K mainGlobals "MOST_STEPS" = some (some (.int 16 t_vT)))
    (g_vD : PySem.W.nsIn K mainGlobals "MANY_STANDINGS" = some (some (.int 6 t_vD)))
    (z_isinstance : PySem.W.nsIn K mainGlobals "isinstance" = some none)
    (z_int : PySem.W.nsIn K mainGlobals "int" = some none)
    (z_bool : PySem.W.nsIn K mainGlobals "bool" = some none)
    (z_str : PySem.W.nsIn K mainGlobals "str" = some none)
    (z_tuple : PySem.W.nsIn K mainGlobals "tuple" = some none)
    (z_len : PySem.W.nsIn K mainGlobals "len" = some none)
    (z_all : PySem.W.nsIn K mainGlobals "all" = some none)
    (z_sorted : PySem.W.nsIn K mainGlobals "sorted" = some none)
    (z_enumerate : PySem.W.nsIn K mainGlobals "enumerate" = some none)
    (z_list : PySem.W.nsIn K mainGlobals "list" = some none)
    (z_range : PySem.W.nsIn K mainGlobals "range" = some none)
    (z_min : PySem.W.nsIn K mainGlobals "min" = some none)
    (z_ValueError : PySem.W.nsIn K mainGlobals "ValueError" = some none)
    (v_V : PySem.W.findCls K (.type "ValueError") (.type "type") "__init__" = some (.val (.builtin "ValueError.__init__"))) :
    ∃ (fd : FuncData) (c T : Addr), PySem.W.codeHdIn K c T = true ∧ T ∈ ts ∧ K.lookup T = none ∧ (∀ (s : Shared) (u : Value), BindsTo s fd ⟨[u], []⟩ [("script", u)]) ∧
      ∀ base : Heap, K.In base → base.Ns mainGlobals mg → TabB base mg c T → FnG P w K mg base CX0 10 fa fd ["script"] (spLawT K T) := by
  have e := hfa.symm.trans (PySem.W.mg_of X G a_la)
  cases e
  have F_iN := fun_mk (st := sNum) l_iN c_iN k_iN
  have b_iN := F_iN.binds (ps := ["thing", "many"]) fun _ _ _ _ _ _ us hl => match us, hl with | [_, _], _ => rfl
  have m_iN := PySem.W.mg_of X G a_iN
  have F_iP := fun_mk (st := sPc) l_iP c_iP k_iP
  have b_iP := F_iP.binds (ps := ["thing"]) fun _ _ _ _ _ _ us hl => match us, hl with | [_], _ => rfl
  have m_iP := PySem.W.mg_of X G a_iP
  have F_iS := fun_mk (st := sStep) l_iS c_iS k_iS
  have b_iS := F_iS.binds (ps := ["thing"]) fun _ _ _ _ _ _ us hl => match us, hl with | [_], _ => rfl
  have m_iS := PySem.W.mg_of X G a_iS
  have F_iL := fun_mk (st := sListed) l_iL c_iL k_iL
  have b_iL := F_iL.binds (ps := ["framing"]) fun _ _ _ _ _ _ us hl => match us, hl with | [_], _ => rfl
  have m_iL := PySem.W.mg_of X G a_iL
  have F_iW := fun_mk (st := sWays) l_iW c_iW k_iW
  have b_iW := F_iW.binds (ps := ["framing", "begin"]) fun _ _ _ _ _ _ us hl => match us, hl with | [_, _], _ => rfl
  have m_iW := PySem.W.mg_of X G a_iW
  have F_iJ := fun_mk (st := sJoined) l_iJ c_iJ k_iJ
  have b_iJ := F_iJ.binds (ps := ["framing"]) fun _ _ _ _ _ _ us hl => match us, hl with | [_], _ => rfl
  have m_iJ := PySem.W.mg_of X G a_iJ
  have F_iF := fun_mk (st := sNeedF) l_iF c_iF k_iF
  have b_iF := F_iF.binds (ps := ["thing"]) fun _ _ _ _ _ _ us hl => match us, hl with | [_], _ => rfl
  have m_iF := PySem.W.mg_of X G a_iF
  have F_cNeedWeaving := fun_mk (st := sNeedWeaving) l_cNeedWeaving c_cNeedWeaving k_cNeedWeaving
  have b_cNeedWeaving := F_cNeedWeaving.binds (ps := ["framing", "thing"]) fun _ _ _ _ _ _ us hl => match us, hl with | [_, _], _ => rfl
  have m_cNeedWeaving := PySem.W.mg_of X G a_cNeedWeaving
  have F_cFileOf := fun_mk (st := sFileOf) l_cFileOf c_cFileOf k_cFileOf
  have b_cFileOf := F_cFileOf.binds (ps := ["framing", "weaving"]) fun _ _ _ _ _ _ us hl => match us, hl with | [_, _], _ => rfl
  have m_cFileOf := PySem.W.mg_of X G a_cFileOf
  have F_cReadLines := fun_mk (st := sReadLines) l_cReadLines c_cReadLines k_cReadLines
  have b_cReadLines := F_cReadLines.binds (ps := ["framing", "weaving"]) fun _ _ _ _ _ _ us hl => match us, hl with | [_, _], _ => rfl
  have m_cReadLines := PySem.W.mg_of X G a_cReadLines
  have F_cRestOf := fun_mk (st := sRestOf) l_cRestOf c_cRestOf k_cRestOf
  have b_cRestOf := F_cRestOf.binds (ps := ["framing", "weaving"]) fun _ _ _ _ _ _ us hl => match us, hl with | [_, _], _ => rfl
  have m_cRestOf := PySem.W.mg_of X G a_cRestOf
  have F_cIsWholeLine := fun_mk (st := sIsWholeLine) l_cIsWholeLine c_cIsWholeLine k_cIsWholeLine
  have b_cIsWholeLine := F_cIsWholeLine.binds (ps := ["framing", "entries"]) fun _ _ _ _ _ _ us hl => match us, hl with | [_, _], _ => rfl
  have m_cIsWholeLine := PySem.W.mg_of X G a_cIsWholeLine
  have F_cStands := fun_mk (st := sStands) l_cStands c_cStands k_cStands
  have b_cStands := F_cStands.binds (ps := ["framing", "weaving"]) fun _ _ _ _ _ _ us hl => match us, hl with | [_, _], _ => rfl
  have m_cStands := PySem.W.mg_of X G a_cStands
  have F_cNeedScore := fun_mk (st := sNeedScore) l_cNeedScore c_cNeedScore k_cNeedScore
  have b_cNeedScore := F_cNeedScore.binds (ps := ["framing", "thing"]) fun _ _ _ _ _ _ us hl => match us, hl with | [_, _], _ => rfl
  have m_cNeedScore := PySem.W.mg_of X G a_cNeedScore
  have F_cCount := fun_mk (st := sCount) l_cCount c_cCount k_cCount
  have b_cCount := F_cCount.binds (ps := ["framing", "score"]) fun _ _ _ _ _ _ us hl => match us, hl with | [_, _], _ => rfl
  have m_cCount := PySem.W.mg_of X G a_cCount
  have F_cCountClean := fun_mk (st := sCountClean) l_cCountClean c_cCountClean k_cCountClean
  have b_cCountClean := F_cCountClean.binds (ps := ["framing", "score"]) fun _ _ _ _ _ _ us hl => match us, hl with | [_, _], _ => rfl
  have m_cCountClean := PySem.W.mg_of X G a_cCountClean
  have F_cWeavingAt := fun_mk (st := sWeavingAt) l_cWeavingAt c_cWeavingAt k_cWeavingAt
  have b_cWeavingAt := F_cWeavingAt.binds (ps := ["framing", "score", "number"]) fun _ _ _ _ _ _ us hl => match us, hl with | [_, _, _], _ => rfl
  have m_cWeavingAt := PySem.W.mg_of X G a_cWeavingAt
  have F_cWeavingNumber := fun_mk (st := sWeavingNumber) l_cWeavingNumber c_cWeavingNumber k_cWeavingNumber
  have b_cWeavingNumber := F_cWeavingNumber.binds (ps := ["framing", "score", "weaving"]) fun _ _ _ _ _ _ us hl => match us, hl with | [_, _, _], _ => rfl
  have m_cWeavingNumber := PySem.W.mg_of X G a_cWeavingNumber
  have F_cIsClean := fun_mk (st := sIsClean) l_cIsClean c_cIsClean k_cIsClean
  have b_cIsClean := F_cIsClean.binds (ps := ["framing", "weaving"]) fun _ _ _ _ _ _ us hl => match us, hl with | [_, _], _ => rfl
  have m_cIsClean := PySem.W.mg_of X G a_cIsClean
  have F_cNeedTurned := fun_mk (st := sNeedTurned) l_cNeedTurned c_cNeedTurned k_cNeedTurned
  have b_cNeedTurned := F_cNeedTurned.binds (ps := ["framing", "thing"]) fun _ _ _ _ _ _ us hl => match us, hl with | [_, _], _ => rfl
  have m_cNeedTurned := PySem.W.mg_of X G a_cNeedTurned
  have F_cFiles := fun_mk (st := sFiles) l_cFiles c_cFiles k_cFiles
  have b_cFiles := F_cFiles.binds (ps := ["framing", "thing", "manner"]) fun _ _ _ _ _ _ us hl => match us, hl with | [_, _, _], _ => rfl
  have m_cFiles := PySem.W.mg_of X G a_cFiles
  have F_cFates := fun_mk (st := sFates) l_cFates c_cFates k_cFates
  have b_cFates := F_cFates.binds (ps := ["framing", "thing", "manner"]) fun _ _ _ _ _ _ us hl => match us, hl with | [_, _, _], _ => rfl
  have m_cFates := PySem.W.mg_of X G a_cFates
  have F_cCheckedTraces := fun_mk (st := sCheckedTraces) l_cCheckedTraces c_cCheckedTraces k_cCheckedTraces
  have b_cCheckedTraces := F_cCheckedTraces.binds (ps := ["framing", "text", "writers"]) fun _ _ _ _ _ _ us hl => match us, hl with | [_, _, _], _ => rfl
  have m_cCheckedTraces := PySem.W.mg_of X G a_cCheckedTraces
  have F_cPossible := fun_mk (st := sPossible) l_cPossible c_cPossible k_cPossible
  have b_cPossible := F_cPossible.binds (ps := ["framing", "text", "writers"]) fun _ _ _ _ _ _ us hl => match us, hl with | [_, _, _], _ => rfl
  have m_cPossible := PySem.W.mg_of X G a_cPossible
  have F_cVerdicts := fun_mk (st := sVerdicts) l_cVerdicts c_cVerdicts k_cVerdicts
  have b_cVerdicts := F_cVerdicts.binds (ps := ["framing", "text", "writers"]) fun _ _ _ _ _ _ us hl => match us, hl with | [_, _, _], _ => rfl
  have m_cVerdicts := PySem.W.mg_of X G a_cVerdicts
  have F_cExplained := fun_mk (st := sExplained) l_cExplained c_cExplained k_cExplained
  have b_cExplained := F_cExplained.binds (ps := ["framing", "text", "writers"]) fun _ _ _ _ _ _ us hl => match us, hl with | [_, _, _], _ => rfl
  have m_cExplained := PySem.W.mg_of X G a_cExplained
  have F_lU := fun_mk (st := sFault) l_lU c_lU k_lU
  have b_lU := F_lU.binds (ps := ["e"]) fun _ _ _ _ _ _ us hl => match us, hl with | [_], _ => rfl
  have m_lU := PySem.W.mg_of X G a_lU
  have F_lO := fun_mk (st := sOutcome) l_lO c_lO k_lO
  have b_lO := F_lO.binds (ps := ["deed"]) fun _ _ _ _ _ _ us hl => match us, hl with | [_], _ => rfl
  have m_lO := PySem.W.mg_of X G a_lO
  have F_lB := fun_mk (st := sBegun) l_lB c_lB k_lB
  have b_lB := F_lB.binds (ps := ["script"]) fun _ _ _ _ _ _ us hl => match us, hl with | [_], _ => rfl
  have m_lB := PySem.W.mg_of X G a_lB
  have F_lN := fun_mk (st := sNext) l_lN c_lN k_lN
  have b_lN := F_lN.binds (ps := ["m", "total"]) fun _ _ _ _ _ _ us hl => match us, hl with | [_, _], _ => rfl
  have m_lN := PySem.W.mg_of X G a_lN
  have F_rf := fun_mk (st := sRef) l_rf c_rf k_rf
  have b_rf := F_rf.binds (ps := ["odd"]) fun _ _ _ _ _ _ us hl => match us, hl with | [_], _ => rfl
  have m_rf := PySem.W.mg_of X G a_rf
  have F_la := fun_mk (st := sLaw) l_la c_la k_la
  have b_la := F_la.binds (ps := ["script"]) fun _ _ _ _ _ _ us hl => match us, hl with | [_], _ => rfl
  have m_la := PySem.W.mg_of X G a_la
  have F_ini := fun_mk (st := sBadFraming) l_ini c_ini k_ini
  have b_ini := F_ini.binds (ps := ["self", "number"]) fun _ _ _ _ _ _ us hl => match us, hl with | [_, _], _ => rfl
  have y_isinstance := PySem.W.mg_none_of X G z_isinstance
  have y_int := PySem.W.mg_none_of X G z_int
  have y_bool := PySem.W.mg_none_of X G z_bool
  have y_str := PySem.W.mg_none_of X G z_str
  have y_tuple := PySem.W.mg_none_of X G z_tuple
  have y_len := PySem.W.mg_none_of X G z_len
  have y_all := PySem.W.mg_none_of X G z_all
  have y_sorted := PySem.W.mg_none_of X G z_sorted
  have y_enumerate := PySem.W.mg_none_of X G z_enumerate
  have y_list := PySem.W.mg_none_of X G z_list
  have y_range := PySem.W.mg_none_of X G z_range
  have y_min := PySem.W.mg_none_of X G z_min
  have y_ValueError := PySem.W.mg_none_of X G z_ValueError
  have x_vS := PySem.W.mg_of X G g_vS
  have x_vM := PySem.W.mg_of X G g_vM
  have x_vT := PySem.W.mg_of X G g_vT
  have x_vD := PySem.W.mg_of X G g_vD
  have TF : TxtF mg := ⟨y_isinstance, y_int, y_bool, y_str, y_tuple, y_len, y_all, ⟨_, x_vS⟩, ⟨_, x_vM⟩, ⟨_, x_vD⟩⟩
  have TD : TxtD mg := ⟨y_list, y_int, y_len⟩
  have IV : BI K mg "ValueError" "ValueError" "ValueError.__init__" := ⟨y_ValueError, by decide +kernel, by kernel_rfl, v_V, by decide +kernel⟩
  let zO : Bfr K mg := { C := C, f := f_ini, d := _, T := OX, I := IV, F := F_ini, b := b_ini, m := PySem.W.mg_of X G aC, iC := iC, tI := tI, n0 := n0, su := suC, ty := tyC }
  let zF : Fs K mg := { B := zO, fN := f_iN, dN := _, N := F_iN, bN := b_iN, mN := m_iN, fP := f_iP, dP := _, P := F_iP, bP := b_iP, mP := m_iP, fS := f_iS, dS := _, S := F_iS, bS := b_iS, mS := m_iS, fL := f_iL, dL := _, L := F_iL, bL := b_iL, mL := m_iL, fW := f_iW, dW := _, W := F_iW, bW := b_iW, mW := m_iW, fJ := f_iJ, dJ := _, J := F_iJ, bJ := b_iJ, mJ := m_iJ, fF := f_iF, dF := _, F := F_iF, bF := b_iF, mF := m_iF, T := TF, so := y_sorted, en := y_enumerate, ms := ⟨_, x_vT⟩ }
  let zS : Cs K mg := { Z := zF, le := y_len, fNeedWeaving := f_cNeedWeaving, dNeedWeaving := _, FNeedWeaving := F_cNeedWeaving, bNeedWeaving := b_cNeedWeaving, mNeedWeaving := m_cNeedWeaving, fFileOf := f_cFileOf, dFileOf := _, FFileOf := F_cFileOf, bFileOf := b_cFileOf, mFileOf := m_cFileOf, fReadLines := f_cReadLines, dReadLines := _, FReadLines := F_cReadLines, bReadLines := b_cReadLines, mReadLines := m_cReadLines, fRestOf := f_cRestOf, dRestOf := _, FRestOf := F_cRestOf, bRestOf := b_cRestOf, mRestOf := m_cRestOf, fIsWholeLine := f_cIsWholeLine, dIsWholeLine := _, FIsWholeLine := F_cIsWholeLine, bIsWholeLine := b_cIsWholeLine, mIsWholeLine := m_cIsWholeLine, fStands := f_cStands, dStands := _, FStands := F_cStands, bStands := b_cStands, mStands := m_cStands, fNeedScore := f_cNeedScore, dNeedScore := _, FNeedScore := F_cNeedScore, bNeedScore := b_cNeedScore, mNeedScore := m_cNeedScore, fCount := f_cCount, dCount := _, FCount := F_cCount, bCount := b_cCount, mCount := m_cCount, fCountClean := f_cCountClean, dCountClean := _, FCountClean := F_cCountClean, bCountClean := b_cCountClean, mCountClean := m_cCountClean, fWeavingAt := f_cWeavingAt, dWeavingAt := _, FWeavingAt := F_cWeavingAt, bWeavingAt := b_cWeavingAt, mWeavingAt := m_cWeavingAt, fWeavingNumber := f_cWeavingNumber, dWeavingNumber := _, FWeavingNumber := F_cWeavingNumber, bWeavingNumber := b_cWeavingNumber, mWeavingNumber := m_cWeavingNumber, fIsClean := f_cIsClean, dIsClean := _, FIsClean := F_cIsClean, bIsClean := b_cIsClean, mIsClean := m_cIsClean, fNeedTurned := f_cNeedTurned, dNeedTurned := _, FNeedTurned := F_cNeedTurned, bNeedTurned := b_cNeedTurned, mNeedTurned := m_cNeedTurned, fFiles := f_cFiles, dFiles := _, FFiles := F_cFiles, bFiles := b_cFiles, mFiles := m_cFiles, fFates := f_cFates, dFates := _, FFates := F_cFates, bFates := b_cFates, mFates := m_cFates, fCheckedTraces := f_cCheckedTraces, dCheckedTraces := _, FCheckedTraces := F_cCheckedTraces, bCheckedTraces := b_cCheckedTraces, mCheckedTraces := m_cCheckedTraces, fPossible := f_cPossible, dPossible := _, FPossible := F_cPossible, bPossible := b_cPossible, mPossible := m_cPossible, fVerdicts := f_cVerdicts, dVerdicts := _, FVerdicts := F_cVerdicts, bVerdicts := b_cVerdicts, mVerdicts := m_cVerdicts, fExplained := f_cExplained, dExplained := _, FExplained := F_cExplained, bExplained := b_cExplained, mExplained := m_cExplained }
  let zX : Fx K mg := { O := zO, own := sbC, D1 := D1, D2 := D2, D3 := D3, D4 := D4, D5 := D5, D6 := D6, D7 := D7, c0 := ⟨PySem.W.mg_of X G aC, suC, hdC, tyC, sbC⟩, c1 := ⟨PySem.W.mg_of X G aD1, suD1, hdD1, tyD1, sbD1⟩, c2 := ⟨PySem.W.mg_of X G aD2, suD2, hdD2, tyD2, sbD2⟩, c3 := ⟨PySem.W.mg_of X G aD3, suD3, hdD3, tyD3, sbD3⟩, c4 := ⟨PySem.W.mg_of X G aD4, suD4, hdD4, tyD4, sbD4⟩, c5 := ⟨PySem.W.mg_of X G aD5, suD5, hdD5, tyD5, sbD5⟩, c6 := ⟨PySem.W.mg_of X G aD6, suD6, hdD6, tyD6, sbD6⟩, c7 := ⟨PySem.W.mg_of X G aD7, suD7, hdD7, tyD7, sbD7⟩, isi := y_isinstance, len := y_len }
  let zU : Ou K mg := { F := zX, f := f_lU, d := _, L := F_lU, b := b_lU, g := m_lU }
  let zR : Rf K mg := { S := zS, U := zU, eO := rfl, fO := f_lO, dO := _, O := F_lO, bO := b_lO, mO := m_lO }
  let zA : Lall K mg := { R := zR, fB := f_lB, dB := _, Be := F_lB, bB := b_lB, mB := m_lB, fN := f_lN, dN := _, N := F_lN, bN := b_lN, mN := m_lN, TD := TD, mi := y_min, ra := y_range }
  exact ⟨PySem.W.fnOf "law" "law" (defArgs sLaw) (defBody sLaw) (defScope sLaw) .none kV_la dc_la pm_la an_la cd_la ct_la, ccl, Tla, tb, mT, nT, fun s u => .of_eq rfl, fun base _ _ TB => ok_law zA TB l_rf c_rf k_rf b_rf m_rf F_la⟩
theorem walk {l : PySem.W.OpenLaw} {q : Program} {loose : List Str} {XP : (Str → Option Value) → Heap → Prop} {YP : World → Heap → Prop} {d : DefRec} {K : Params → PySem.W.Frag} {ts : List Addr} (hn : l.most = some 63) (hdf : d.params.defaults = [])
    (hY : ∀ (w : World) (h : Heap), YP w h → (K w.params).In h ∧ ∀ P ∈ ts, h.get? P = some (PySem.W.tabObj #[]))
    (F : ∀ (w : World) (mg : Str → Option Value) (fa : Addr) (h : Heap), (K w.params).In h → h.Ns mainGlobals mg → mg d.name = some (.ref fa) →
      ∃ (fd : FuncData) (c T : Addr), PySem.W.codeHdIn (K w.params) c T = true ∧ T ∈ ts ∧ (K w.params).lookup T = none ∧ (∀ (s : Shared) (u : Value), BindsTo s fd ⟨[u], []⟩ [("script", u)]) ∧
        ∀ base : Heap, (K w.params).In base → base.Ns mainGlobals mg → TabB base mg c T → FnG l.prog w (K w.params) mg base CX0 10 fa fd ["script"] (spLawT (K w.params) T)) :
    PySem.W.WalkO q loose XP YP l.row.toRowW d [] (fun f vs => PySem.call f vs) :=
  walk_T (n := 63) (k := 10) (x := "script") (sp := spLawT) hn (by decide) hdf ⟨rfl, by decide, by decide⟩ hY F (fun _ _ a _ ns hl hT hS => ⟨a, ns, rfl, hS, hl, hT, fun _ => rfl⟩)
end K34

set_option Elab.async false
set_option maxRecDepth 100000
open PySem PySem.W PyProof.Rows
set_option maxRecDepth 100000 in
set_option maxHeartbeats 0 in
theorem PySem.Challenge.cw_tornlines_k34_weavings_refused_holds : PySem.Challenge.rw_tornlines_k34_weavings_refused.Holds := by
  w_on; o_law; k_head; (case hw => w_witness2)
  k_fill
  refine K34.walk (l := PySem.Challenge.rw_tornlines_k34_weavings_refused) rfl rfl (fun w h Y => ⟨PySem.W.km_in_of Y, PySem.W.km_tabs_of Y⟩) ?F
  case F =>
    intro w mg fa h KX G hmg
    refine' K34.all_mk KX G hmg ?a_iN ?l_iN ?c_iN ?k_iN ?a_iP ?l_iP ?c_iP ?k_iP ?a_iS ?l_iS ?c_iS ?k_iS ?a_iL ?l_iL ?c_iL ?k_iL ?a_iW ?l_iW ?c_iW ?k_iW ?a_iJ ?l_iJ ?c_iJ ?k_iJ ?a_iF ?l_iF ?c_iF ?k_iF ?a_cNeedWeaving ?l_cNeedWeaving ?c_cNeedWeaving ?k_cNeedWeaving ?a_cFileOf ?l_cFileOf ?c_cFileOf ?k_cFileOf ?a_cReadLines ?l_cReadLines ?c_cReadLines ?k_cReadLines ?a_cRestOf ?l_cRestOf ?c_cRestOf ?k_cRestOf ?a_cIsWholeLine ?l_cIsWholeLine ?c_cIsWholeLine ?k_cIsWholeLine ?a_cStands ?l_cStands ?c_cStands ?k_cStands ?a_cNeedScore ?l_cNeedScore ?c_cNeedScore ?k_cNeedScore ?a_cCount ?l_cCount ?c_cCount ?k_cCount ?a_cCountClean ?l_cCountClean ?c_cCountClean ?k_cCountClean ?a_cWeavingAt ?l_cWeavingAt ?c_cWeavingAt ?k_cWeavingAt ?a_cWeavingNumber ?l_cWeavingNumber ?c_cWeavingNumber ?k_cWeavingNumber ?a_cIsClean ?l_cIsClean ?c_cIsClean ?k_cIsClean ?a_cNeedTurned ?l_cNeedTurned ?c_cNeedTurned ?k_cNeedTurned ?a_cFiles ?l_cFiles ?c_cFiles ?k_cFiles ?a_cFates ?l_cFates ?c_cFates ?k_cFates ?a_cCheckedTraces ?l_cCheckedTraces ?c_cCheckedTraces ?k_cCheckedTraces ?a_cPossible ?l_cPossible ?c_cPossible ?k_cPossible ?a_cVerdicts ?l_cVerdicts ?c_cVerdicts ?k_cVerdicts ?a_cExplained ?l_cExplained ?c_cExplained ?k_cExplained ?a_lU ?l_lU ?c_lU ?k_lU ?a_lO ?l_lO ?c_lO ?k_lO ?a_lB ?l_lB ?c_lB ?k_lB ?a_lN ?l_lN ?c_lN ?k_lN ?a_rf ?l_rf ?c_rf ?k_rf ?a_la ?l_la ?c_la ?k_la ?mT ?tb ?nT ?aC ?aD1 ?aD2 ?aD3 ?aD4 ?aD5 ?aD6 ?aD7 ?OX ?iC ?tI ?n0 ?l_ini ?c_ini ?k_ini ?suC ?hdC ?tyC ?sbC ?suD1 ?hdD1 ?tyD1 ?sbD1 ?suD2 ?hdD2 ?tyD2 ?sbD2 ?suD3 ?hdD3 ?tyD3 ?sbD3 ?suD4 ?hdD4 ?tyD4 ?sbD4 ?suD5 ?hdD5 ?tyD5 ?sbD5 ?suD6 ?hdD6 ?tyD6 ?sbD6 ?suD7 ?hdD7 ?tyD7 ?sbD7 ?g_vS ?g_vM ?g_vT ?g_vD ?z_isinstance ?z_int ?z_bool ?z_str ?z_tuple ?z_len ?z_all ?z_sorted ?z_enumerate ?z_list ?z_range ?z_min ?z_ValueError ?v_V
    (case a_iN => k_is)
    (case l_iN => k_is)
    (case c_iN => k_is)
    (case k_iN => k_is)
    (case a_iP => k_is)
    (case l_iP => k_is)
    (case c_iP => k_is)
    (case k_iP => k_is)
    (case a_iS => k_is)
    (case l_iS => k_is)
    (case c_iS => k_is)
    (case k_iS => k_is)
    (case a_iL => k_is)
    (case l_iL => k_is)
    (case c_iL => k_is)
    (case k_iL => k_is)
    (case a_iW => k_is)
    (case l_iW => k_is)
    (case c_iW => k_is)
    (case k_iW => k_is)
    (case a_iJ => k_is)
    (case l_iJ => k_is)
    (case c_iJ => k_is)
    (case k_iJ => k_is)
    (case a_iF => k_is)
    (case l_iF => k_is)
    (case c_iF => k_is)
    (case k_iF => k_is)
    (case a_cNeedWeaving => k_is)
    (case l_cNeedWeaving => k_is)
    (case c_cNeedWeaving => k_is)
    (case k_cNeedWeaving => k_is)
    (case a_cFileOf => k_is)
    (case l_cFileOf => k_is)
    (case c_cFileOf => k_is)
    (case k_cFileOf => k_is)
    (case a_cReadLines => k_is)
    (case l_cReadLines => k_is)
    (case c_cReadLines => k_is)
    (case k_cReadLines => k_is)
    (case a_cRestOf => k_is)
    (case l_cRestOf => k_is)
    (case c_cRestOf => k_is)
    (case k_cRestOf => k_is)
    (case a_cIsWholeLine => k_is)
    (case l_cIsWholeLine => k_is)
    (case c_cIsWholeLine => k_is)
    (case k_cIsWholeLine => k_is)
    (case a_cStands => k_is)
    (case l_cStands => k_is)
    (case c_cStands => k_is)
    (case k_cStands => k_is)
    (case a_cNeedScore => k_is)
    (case l_cNeedScore => k_is)
    (case c_cNeedScore => k_is)
    (case k_cNeedScore => k_is)
    (case a_cCount => k_is)
    (case l_cCount => k_is)
    (case c_cCount => k_is)
    (case k_cCount => k_is)
    (case a_cCountClean => k_is)
    (case l_cCountClean => k_is)
    (case c_cCountClean => k_is)
    (case k_cCountClean => k_is)
    (case a_cWeavingAt => k_is)
    (case l_cWeavingAt => k_is)
    (case c_cWeavingAt => k_is)
    (case k_cWeavingAt => k_is)
    (case a_cWeavingNumber => k_is)
    (case l_cWeavingNumber => k_is)
    (case c_cWeavingNumber => k_is)
    (case k_cWeavingNumber => k_is)
    (case a_cIsClean => k_is)
    (case l_cIsClean => k_is)
    (case c_cIsClean => k_is)
    (case k_cIsClean => k_is)
    (case a_cNeedTurned => k_is)
    (case l_cNeedTurned => k_is)
    (case c_cNeedTurned => k_is)
    (case k_cNeedTurned => k_is)
    (case a_cFiles => k_is)
    (case l_cFiles => k_is)
    (case c_cFiles => k_is)
    (case k_cFiles => k_is)
    (case a_cFates => k_is)
    (case l_cFates => k_is)
    (case c_cFates => k_is)
    (case k_cFates => k_is)
    (case a_cCheckedTraces => k_is)
    (case l_cCheckedTraces => k_is)
    (case c_cCheckedTraces => k_is)
    (case k_cCheckedTraces => k_is)
    (case a_cPossible => k_is)
    (case l_cPossible => k_is)
    (case c_cPossible => k_is)
    (case k_cPossible => k_is)
    (case a_cVerdicts => k_is)
    (case l_cVerdicts => k_is)
    (case c_cVerdicts => k_is)
    (case k_cVerdicts => k_is)
    (case a_cExplained => k_is)
    (case l_cExplained => k_is)
    (case c_cExplained => k_is)
    (case k_cExplained => k_is)
    (case a_lU => k_is)
    (case l_lU => k_is)
    (case c_lU => k_is)
    (case k_lU => k_is)
    (case a_lO => k_is)
    (case l_lO => k_is)
    (case c_lO => k_is)
    (case k_lO => k_is)
    (case a_lB => k_is)
    (case l_lB => k_is)
    (case c_lB => k_is)
    (case k_lB => k_is)
    (case a_lN => k_is)
    (case l_lN => k_is)
    (case c_lN => k_is)
    (case k_lN => k_is)
    (case a_rf => k_is)
    (case l_rf => k_is)
    (case c_rf => k_is)
    (case k_rf => k_is)
    (case a_la => k_is)
    (case l_la => k_is)
    (case c_la => k_is)
    (case k_la => k_is)
    (case mT => exact List.mem_cons_self)
    (case tb => first | kernel_rfl | k_is)
    (case nT => first | kernel_rfl | k_is)
    (case aC => k_is)
    (case aD1 => k_is)
    (case aD2 => k_is)
    (case aD3 => k_is)
    (case aD4 => k_is)
    (case aD5 => k_is)
    (case aD6 => k_is)
    (case aD7 => k_is)
    case OX =>
      refine' K34.oxc ?cl PySem.F.excBase_ValueError (fun self => PySem.F.store_ValueError.passes self) (by decide +kernel) ?sa ?ga ?gg ?exC ?kC ?hd ?ca ?cn ?ct ?om
      (case cl => k_is)
      (case sa => k_is)
      (case ga => k_is)
      (case gg => k_is)
      (case exC => k_is)
      (case kC => k_is)
      (case hd => k_is)
      (case ca => k_is)
      (case cn => k_is)
      (case ct => k_is)
      (case om => k_is)
    (case iC => k_is)
    (case tI => k_is)
    (case n0 => k_is)
    (case l_ini => k_is)
    (case c_ini => k_is)
    (case k_ini => k_is)
    (case suC => k_is)
    (case hdC => k_is)
    (case tyC => k_is)
    (case sbC => k_is)
    (case suD1 => k_is)
    (case hdD1 => k_is)
    (case tyD1 => k_is)
    (case sbD1 => k_is)
    (case suD2 => k_is)
    (case hdD2 => k_is)
    (case tyD2 => k_is)
    (case sbD2 => k_is)
    (case suD3 => k_is)
    (case hdD3 => k_is)
    (case tyD3 => k_is)
    (case sbD3 => k_is)
    (case suD4 => k_is)
    (case hdD4 => k_is)
    (case tyD4 => k_is)
    (case sbD4 => k_is)
    (case suD5 => k_is)
    (case hdD5 => k_is)
    (case tyD5 => k_is)
    (case sbD5 => k_is)
    (case suD6 => k_is)
    (case hdD6 => k_is)
    (case tyD6 => k_is)
    (case sbD6 => k_is)
    (case suD7 => k_is)
    (case hdD7 => k_is)
    (case tyD7 => k_is)
    (case sbD7 => k_is)
    (case g_vS => k_is)
    (case g_vM => k_is)
    (case g_vT => k_is)
    (case g_vD => k_is)
    (case z_isinstance => k_is)
    (case z_int => k_is)
    (case z_bool => k_is)
    (case z_str => k_is)
    (case z_tuple => k_is)
    (case z_len => k_is)
    (case z_all => k_is)
    (case z_sorted => k_is)
    (case z_enumerate => k_is)
    (case z_list => k_is)
    (case z_range => k_is)
    (case z_min => k_is)
    (case z_ValueError => k_is)
    (case v_V => k_is)
#print axioms PySem.Challenge.cw_tornlines_k34_weavings_refused_holds
